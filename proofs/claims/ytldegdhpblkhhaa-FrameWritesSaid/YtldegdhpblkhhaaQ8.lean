/-
  The document's own Read: what it answers, at every text of at most 1,048,579 bytes.
-/
import Derived.Test.YtldegdhpblkhhaaY8
import Derived.Test.YtldegdhpblkhhaaZ8
import Derived.Test.YtldegdhpblkhhaaI8
namespace Go.Proofs.Ytldegdhpblkhhaa
open Go Go.RowKit
set_option maxRecDepth 100000 in
theorem refread_none (A : Option Addr) (n c er : Nat) (w : World) (he : ((er : Int) != 0) = true) (HO : ∀ w' : World, Below w.heap.size w w' → Calls Try.prog 32 #[.slice A n c] w' (RetE w'.heap.size [] er w')) :
    Calls Try.prog 12 #[.slice A n c] w fun e w' => e = .returned (.tuple #[fv fz, .int .i64 (er : Int)]) ∧ Below w.heap.size w w' := by
  have H := hid HO
  clear HO
  go_enter Try.func12, Try.ntmps12
  go_wp2_with (first
    | (refine wpList_svf (x := fz) rfl (.tmp 2) (.tmp 17) rfl rfl rfl v2 ?_; intro w3 v3 b3 o3 _; have B3 : Hid (Below w.heap.size w w3) := hid (B2.out.trans b3))
    | (go_at_call 32; (with_reducible refine (H.out w1 b1).mono ?_); rintro e w2 ⟨A2, n2, c2, rfl, own2, b2⟩; have v2 := v1.keep b2; have B2 : Hid (Below w.heap.size w w2) := hid (b1.trans (b2.mono b1.size)); clear v1 b2)
    | (refine wpList_alf rfl rfl ?_; intro w1 v1 b1 s1))
  exact bodyPost_ret (results_f1 Try.results12 _ rfl v3) rfl ⟨rfl, B3.out⟩
set_option maxRecDepth 100000 in
theorem refread_few (A : Option Addr) (n c : Nat) (l : List Nat) (w : World) (HO : ∀ w' : World, Below w.heap.size w w' → Calls Try.prog 32 #[.slice A n c] w' (RetE w'.heap.size (bv l) 0 w')) (hl : l.length < 3) :
    Calls Try.prog 12 #[.slice A n c] w fun e w' => e = .returned (.tuple #[fv fz, .int .i64 4]) ∧ Below w.heap.size w w' := by
  have H := hid HO
  have HL := hid hl
  clear HO hl
  go_enter Try.func12, Try.ntmps12
  go_wp2_with (first
    | (refine wpList_svf (x := fz) rfl (.tmp 2) (.tmp 22) rfl rfl rfl v2 ?_; intro w3 v3 b3 o3 _; have B3 : Hid (Below w.heap.size w w3) := hid (B2.out.trans b3))
    | (go_at_call 32; (with_reducible refine (H.out w1 b1).mono ?_); rintro e w2 ⟨A2, n2, c2, rfl, own2, b2⟩; have v2 := v1.keep b2; have B2 : Hid (Below w.heap.size w w2) := hid (b1.trans (b2.mono b1.size)); have hn2 : n2 < 3 := (by have := own2.len; rw [bv_len] at this; have := HL.out; omega); clear v1 b2)
    | (refine wpList_alf rfl rfl ?_; intro w1 v1 b1 s1))
  exact bodyPost_ret (results_f1 Try.results12 _ rfl v3) rfl ⟨rfl, B3.out⟩
set_option maxRecDepth 100000 in
theorem refread_form (A : Option Addr) (n c s p e : Nat) (l : List Nat) (w : World) (HO : ∀ w' : World, Below w.heap.size w w' → Calls Try.prog 32 #[.slice A n c] w' (RetE w'.heap.size (bv l) 0 w')) (ho : Oct l) (hl3 : 3 ≤ l.length) (hl : l.length ≤ 1048576) (hv : tv true 0 3 (l.drop 3) = (s, p, e)) (hp : p ≤ l.length) (h : e ≠ 0 ∨ l.length ≠ p + 2) :
    Calls Try.prog 12 #[.slice A n c] w fun e w' => e = .returned (.tuple #[fv fz, .int .i64 4]) ∧ Below w.heap.size w w' := by
  have H := hid HO
  have HV : Hid (∀ (A : Option Addr) (n c : Nat) (w : World), Row w w.heap.size A n (bv l) → Calls Try.prog 33 #[.slice A n c, .int .i64 3] w fun r w' => r = .returned (.tuple #[.int .u64 (s : Int), .int .i64 (p : Int), .int .i64 (e : Int)]) ∧ w = w') := hid (fun A n c w hr => reftakeVary_3 A n c _ 3 s p e l w hr ho (by have := hr.1; rw [bv_len] at this; omega) hv)
  obtain ⟨N, hN⟩ : ∃ N, N = l.length := ⟨_, rfl⟩
  rw [← hN] at hl3 hl hp h
  have HN := hid hN
  clear HO ho hv hN
  by_cases he : e = 0
  · have hne : ((N : Int) != (p : Int) + 2) = true := by rw [bne_iff_ne]; omega
    subst he
    clear h
    go_enter Try.func12, Try.ntmps12
    go_wp2_with (first
      | (refine wpList_svf (x := fz) rfl (.tmp 2) (.tmp 38) rfl rfl rfl v2 ?_; intro w3 v3 b3 o3 _; have B3 : Hid (Below w.heap.size w w3) := hid (B2.out.trans b3))
      | (go_at_call 33; (with_reducible refine (HV.out _ _ _ _ own2.row).mono ?_); rintro e w' ⟨rfl, rfl⟩)
      | (go_at_call 32; (with_reducible refine (H.out w1 b1).mono ?_); rintro e w2 ⟨A2, n2, c2, rfl, own2, b2⟩; have v2 := v1.keep b2; have B2 : Hid (Below w.heap.size w w2) := hid (b1.trans (b2.mono b1.size)); have hn2 : n2 = N := (by have := own2.len; rw [bv_len] at this; have := HN.out; omega); subst hn2; clear v1 b2)
      | (refine wpList_alf rfl rfl ?_; intro w1 v1 b1 s1))
    exact bodyPost_ret (results_f1 Try.results12 _ rfl v3) rfl ⟨rfl, B3.out⟩
  · have hne : ((e : Int) != 0) = true := by rw [bne_iff_ne]; omega
    clear h he
    go_enter Try.func12, Try.ntmps12
    go_wp2_with (first
      | (refine wpList_svf (x := fz) rfl (.tmp 2) (.tmp 38) rfl rfl rfl v2 ?_; intro w3 v3 b3 o3 _; have B3 : Hid (Below w.heap.size w w3) := hid (B2.out.trans b3))
      | (go_at_call 33; (with_reducible refine (HV.out _ _ _ _ own2.row).mono ?_); rintro e w' ⟨rfl, rfl⟩)
      | (go_at_call 32; (with_reducible refine (H.out w1 b1).mono ?_); rintro e w2 ⟨A2, n2, c2, rfl, own2, b2⟩; have v2 := v1.keep b2; have B2 : Hid (Below w.heap.size w w2) := hid (b1.trans (b2.mono b1.size)); have hn2 : n2 = N := (by have := own2.len; rw [bv_len] at this; have := HN.out; omega); subst hn2; clear v1 b2)
      | (refine wpList_alf rfl rfl ?_; intro w1 v1 b1 s1))
    exact bodyPost_ret (results_f1 Try.results12 _ rfl v3) rfl ⟨rfl, B3.out⟩
theorem refwrite_any (x : Fr) (w : World) (hm : x.m < 65536) : Calls Try.prog 10 #[fv x] w (WrP w.heap.size x w) := by
  by_cases h : OkF x
  · exact (refwrite_ok x w h hm).mono fun e w' r => .inl ⟨h, r⟩
  · exact (refwrite_bad x w h).mono fun e w' r => .inr ⟨h, r⟩
set_option maxRecDepth 100000 in
set_option maxHeartbeats 1000000 in
theorem refread_cand (A : Option Addr) (n c B a1 a2 s p y z : Nat) (bs l : List Nat) (w : World) (hb : Row w B A n (bv bs)) (hB : B ≤ w.heap.size) (hob : Oct bs) (HO : ∀ w' : World, Below w.heap.size w w' → Calls Try.prog 32 #[.slice A n c] w' (RetE w'.heap.size (bv l) 0 w')) (ho : Oct l) (hl : l.length ≤ 1048576) (hv : tv true 0 3 (l.drop 3) = (s, p, 0)) (hp : l.length = p + 2) (hp3 : 3 ≤ p)
    (h1 : l[1]? = some a1) (h2 : l[2]? = some a2) (h3 : l[p]? = some y) (h4 : l[p + 1]? = some z) :
    Calls Try.prog 12 #[.slice A n c] w fun e w' => e = .returned (if OkF ⟨(a1 : Int), (a2 : Int), s, y * 256 + z⟩ ∧ sealedF ⟨(a1 : Int), (a2 : Int), s, y * 256 + z⟩ = bs then .tuple #[fv ⟨(a1 : Int), (a2 : Int), s, y * 256 + z⟩, .int .i64 0] else .tuple #[fv fz, .int .i64 4]) ∧ Below w.heap.size w w' := by
  have H := hid HO
  have HV : Hid (∀ (A : Option Addr) (n c : Nat) (w : World), Row w w.heap.size A n (bv l) → Calls Try.prog 33 #[.slice A n c, .int .i64 3] w fun r w' => r = .returned (.tuple #[.int .u64 (s : Int), .int .i64 (p : Int), .int .i64 0]) ∧ w = w') := hid (fun A n c w hr => reftakeVary_3 A n c _ 3 s p 0 l w hr ho (by have := hr.1; rw [bv_len] at this; omega) hv)
  have o1 : a1 < 256 := ho _ (List.mem_of_getElem? h1)
  have o2 : a2 < 256 := ho _ (List.mem_of_getElem? h2)
  have o3 : y < 256 := ho _ (List.mem_of_getElem? h3)
  have o4 : z < 256 := ho _ (List.mem_of_getElem? h4)
  have HL := hid hp
  have C1 : Hid ((bv l)[1]? = some (.int .u8 (a1 : Int))) := hid (by simp [bv, h1])
  have C2 : Hid ((bv l)[2]? = some (.int .u8 (a2 : Int))) := hid (by simp [bv, h2])
  have C3 : Hid ((bv l)[p]? = some (.int .u8 (y : Int))) := hid (by simp [bv, h3])
  have C4 : Hid ((bv l)[p + 1]? = some (.int .u8 (z : Int))) := hid (by simp [bv, h4])
  have HR := hid hb
  have HOB := hid hob
  have hpl : p ≤ 1048574 := by omega
  obtain ⟨x, hx⟩ : ∃ x : Fr, x = ⟨(a1 : Int), (a2 : Int), s, y * 256 + z⟩ := ⟨_, rfl⟩
  rw [← hx]
  have HX := hid hx
  obtain ⟨V, hV⟩ : ∃ V : Value, V = (if OkF x ∧ sealedF x = bs then .tuple #[fv x, .int .i64 0] else .tuple #[fv fz, .int .i64 4]) := ⟨_, rfl⟩
  rw [← hV]
  have HVV := hid hV
  clear HO ho hl hv hp h1 h2 h3 h4 hb hob hx hV
  go_enter Try.func12, Try.ntmps12
  go_wp2_with (first
    | (go_at_call 33; (with_reducible refine (HV.out _ _ _ _ own2.row).mono ?_); rintro e w' ⟨rfl, rfl⟩)
    | (go_at_call 32; (with_reducible refine (H.out w1 b1).mono ?_); rintro e w2 ⟨A2, n2, c2, rfl, own2, b2⟩; have v2 := v1.keep b2; have B2 : Hid (Below w.heap.size w w2) := hid (b1.trans (b2.mono b1.size)); have hn2 : n2 = p + 2 := (by have := own2.len; rw [bv_len] at this; have := HL.out; omega); subst hn2; clear v1 b2)
    | (refine wpList_alf rfl rfl ?_; intro w1 v1 b1 s1))
  obtain ⟨gb, rfl, hgb, hcell, _, _⟩ := own2.at_ (by omega)
  have k1 : w2.cell? ⟨gb, 1, none⟩ = some (.int .u8 (a1 : Int)) := (hcell 1 (by omega)).trans C1.out
  have k2 : w2.cell? ⟨gb, 2, none⟩ = some (.int .u8 (a2 : Int)) := (hcell 2 (by omega)).trans C2.out
  have k3 : w2.cell? ⟨gb, p, none⟩ = some (.int .u8 (y : Int)) := (hcell p (by omega)).trans C3.out
  have k4 : w2.cell? ⟨gb, p + 1, none⟩ = some (.int .u8 (z : Int)) := (hcell (p + 1) (by omega)).trans C4.out
  have i1 : (1 : Int) < (p : Int) + 2 := by omega
  have i2 : (2 : Int) < (p : Int) + 2 := by omega
  have i3 : (p : Int) < (p : Int) + 2 := by omega
  have i4 : (p : Int) + 1 < (p : Int) + 2 := by omega
  have i5 : (0 : Int) ≤ (p : Int) := Int.natCast_nonneg _
  have hlt : gb < w2.heap.size := World.block_lt_of_cell? w2 _ k1
  have hgn : ¬ gb = w2.heap.size := by omega
  have hgn2 : ¬ w2.heap.size = gb := by omega
  have V2 := hid v2
  clear hcell own2 C1 C2 C3 C4 HL v2 hgb HV H
  go_region
  have hmm : (y : Int) * 256 + (z : Int) = ((y * 256 + z : Nat) : Int) := by omega
  have hmb : y * 256 + z < 65536 := by omega
  rw [hmm]
  have U3 : VarF (w2.alloc (Obj.cells #[.int .i64 (a1 : Int), .int .i64 (a2 : Int), .int .u64 (s : Int), .int .u16 ((y * 256 + z : Nat) : Int)] 25)).drew w2.heap.size ⟨(a1 : Int), (a2 : Int), s, y * 256 + z⟩ := (varf_new w2 ⟨(a1 : Int), (a2 : Int), s, y * 256 + z⟩).keep (Below.refl _ _).drew
  have hb3 : Below w2.heap.size w2 (w2.alloc (Obj.cells #[.int .i64 (a1 : Int), .int .i64 (a2 : Int), .int .u64 (s : Int), .int .u16 ((y * 256 + z : Nat) : Int)] 25)).drew := ((Below.refl _ _).alloc (Nat.le_refl _) _).drew
  have v3 := V2.out.keep hb3
  have B3 : Hid (Below w.heap.size w (w2.alloc (Obj.cells #[.int .i64 (a1 : Int), .int .i64 (a2 : Int), .int .u64 (s : Int), .int .u16 ((y * 256 + z : Nat) : Int)] 25)).drew) := hid (B2.out.trans (hb3.mono B2.out.size))
  have hgw : w2.heap.size ≠ w.heap.size := by have := V2.out.lt; omega
  clear hb3 k1 k2 k3 k4 hlt hgn hgn2 i1 i2 i3 i4 i5 V2 hmm
  generalize (w2.alloc (Obj.cells #[.int .i64 (a1 : Int), .int .i64 (a2 : Int), .int .u64 (s : Int), .int .u16 ((y * 256 + z : Nat) : Int)] 25)).drew = w3 at *
  have hxm : x.m < 65536 := by rw [HX.out]; exact hmb
  rw [← HX.out] at U3
  clear HX
  generalize y * 256 + z = m at *
  generalize w2.heap.size = gx at *
  go_wp2_with (first
    | (refine wpList_ldf rfl (.tmp 8) rfl rfl U3 ?_))
  refine (refwrite_any x w3 hxm).mono ?_
  rintro e w4 (⟨okx, A4, n4, c4, rfl, own4, b4⟩ | ⟨badx, A4, n4, c4, rfl, own4, b4⟩)
  · have v4 := v3.keep b4
    have u4 := U3.keep b4
    have B4 : Hid (Below w.heap.size w w4) := hid (B3.out.trans (b4.mono B3.out.size))
    have OX := hid okx
    by_cases heq : sealedF x = bs
    · have HS := hid (same_any A4 A n4 c4 n c w4.heap.size B (sealedF x) bs true w4 own4.row (HR.out.below (B4.out.mono hB)) (sealedF_oct x okx) HOB.out (decide_eq_true heq))
      have HY : Hid (V = .tuple #[fv x, .int .i64 0]) := hid (by rw [HVV.out, if_pos ⟨okx, heq⟩])
      clear own4 b4 v3 U3 okx heq
      go_wp2_with (first
        | (refine wpList_svf (x := x) rfl (.tmp 2) (.tmp 76) rfl rfl rfl v4 ?_; intro w5 v5 b5 o5 _; have B5 : Hid (Below w.heap.size w w5) := hid (B4.out.trans b5))
        | (refine wpList_ldf rfl (.tmp 8) rfl rfl u4 ?_)
        | (go_at_call 14; (with_reducible refine (HS.out).mono ?_); rintro e w' ⟨rfl, rfl⟩))
      exact bodyPost_ret (results_f1 Try.results12 _ rfl v5) rfl ⟨by rw [HY.out]; rfl, B5.out⟩
    · have HS := hid (same_any A4 A n4 c4 n c w4.heap.size B (sealedF x) bs false w4 own4.row (HR.out.below (B4.out.mono hB)) (sealedF_oct x okx) HOB.out (decide_eq_false heq))
      have HY : Hid (V = .tuple #[fv fz, .int .i64 4]) := hid (by rw [HVV.out, if_neg (fun e => heq e.2)])
      clear own4 b4 v3 U3 okx heq
      go_wp2_with (first
        | (refine wpList_svf (x := fz) rfl (.tmp 2) (.tmp 75) rfl rfl rfl v4 ?_; intro w5 v5 b5 o5 _; have B5 : Hid (Below w.heap.size w w5) := hid (B4.out.trans b5))
        | (go_at_call 14; (with_reducible refine (HS.out).mono ?_); rintro e w' ⟨rfl, rfl⟩))
      exact bodyPost_ret (results_f1 Try.results12 _ rfl v5) rfl ⟨by rw [HY.out]; rfl, B5.out⟩
  · have v4 := v3.keep b4
    have B4 : Hid (Below w.heap.size w w4) := hid (B3.out.trans (b4.mono B3.out.size))
    have HY : Hid (V = .tuple #[fv fz, .int .i64 4]) := hid (by rw [HVV.out, if_neg (fun e => badx e.1)])
    clear own4 b4 v3 U3 badx
    go_wp2_with (first
      | (refine wpList_svf (x := fz) rfl (.tmp 2) (.tmp 75) rfl rfl rfl v4 ?_; intro w5 v5 b5 o5 _; have B5 : Hid (Below w.heap.size w w5) := hid (B4.out.trans b5)))
    exact bodyPost_ret (results_f1 Try.results12 _ rfl v5) rfl ⟨by rw [HY.out]; rfl, B5.out⟩
/-- The frame that a text is read as is that whose text it is. -/
theorem cand_eq (x : Fr) (h : OkF x) (hm : x.m < 65536) (s p a1 a2 y z : Nat) (hv : tv true 0 3 ((bare x).drop 3) = (s, p, 0)) (h1 : (bare x)[1]? = some a1) (h2 : (bare x)[2]? = some a2) (h3 : (bare x)[p]? = some y) (h4 : (bare x)[p + 1]? = some z) :
    (⟨(a1 : Int), (a2 : Int), s, y * 256 + z⟩ : Fr) = x := by
  obtain ⟨k, f, t, m⟩ := x
  obtain ⟨o1, o2, o3, o4⟩ := h
  simp only at o1 o2 o3 o4 hm
  have hb : bare ⟨k, f, t, m⟩ = 161 :: k.toNat :: f.toNat :: (vary t ++ fixb m 2) := rfl
  rw [hb] at hv h1 h2 h3 h4
  have hv' : tv true 0 3 (vary t ++ fixb m 2) = (s, p, 0) := by simpa using hv
  rw [tv_vary t (by omega) 3 _] at hv'
  obtain ⟨rfl, hv2⟩ := Prod.mk.inj hv'
  obtain ⟨rfl, _⟩ := Prod.mk.inj hv2
  simp at h1 h2
  have e3 : (161 :: k.toNat :: f.toNat :: (vary t ++ fixb m 2))[3 + (vary t).length]? = some (m / 256) := by
    rw [show 3 + (vary t).length = (vary t).length + 1 + 1 + 1 by omega]
    simp only [List.getElem?_cons_succ]
    rw [List.getElem?_append_right (Nat.le_refl _), Nat.sub_self, fixb2 m hm]; rfl
  have e4 : (161 :: k.toNat :: f.toNat :: (vary t ++ fixb m 2))[3 + (vary t).length + 1]? = some (m % 256) := by
    rw [show 3 + (vary t).length + 1 = ((vary t).length + 1) + 1 + 1 + 1 by omega]
    simp only [List.getElem?_cons_succ]
    rw [List.getElem?_append_right (by omega), Nat.add_sub_cancel_left, fixb2 m hm]; rfl
  rw [e3] at h3
  rw [e4] at h4
  have h3' := Option.some.inj h3
  have h4' := Option.some.inj h4
  congr 1 <;> omega
theorem rd_l (bs : List Nat) (h3 : ¬ bs.length < 3) (h6 : ¬ 1048579 < bs.length) (ht : tail24 (bs.take (bs.length - 3)) = bs.drop (bs.length - 3)) (h : (flds (bs.take (bs.length - 3))).2 = false) : rd bs = (fz, 4) := by
  unfold rd
  rw [if_neg h3, if_neg h6, if_pos ht, if_neg (by rw [h]; simp)]
theorem refread_any (A : Option Addr) (n c B : Nat) (bs : List Nat) (w : World) (ha : Row w B A n (bv bs)) (hB : B ≤ w.heap.size) (ho : Oct bs) (hnc : n ≤ c) (hn : n ≤ 1048579) :
    Calls Try.prog 12 #[.slice A n c] w fun e w' => e = .returned (.tuple #[fv (rd bs).1, .int .i64 ((rd bs).2 : Nat)]) ∧ Below w.heap.size w w' := by
  have hl : bs.length = n := by rw [← bv_len]; exact ha.1
  by_cases h3 : n < 3
  · have hr : rd bs = (fz, 3) := by unfold rd; rw [if_pos (by omega)]
    rw [hr]
    exact refread_none A n c 3 w rfl (fun w' _ => refopen24_short A n c w' h3)
  by_cases ht : tail24 (bs.take (n - 3)) = bs.drop (n - 3)
  · have hO : ∀ w' : World, Below w.heap.size w w' → Calls Try.prog 32 #[.slice A n c] w' (RetE w'.heap.size (bv (bs.take (n - 3))) 0 w') := fun w' hb => by
      have := refopen24_any A n c B bs true w' (ha.below (hb.mono hB)) (Nat.le_trans hB hb.size) ho (by omega) (by omega) hnc (decide_eq_true ht)
      simpa using this
    have hot := ho.take (n - 3)
    have hlt : (bs.take (n - 3)).length = n - 3 := by rw [List.length_take]; omega
    have ht' := ht
    rw [← hl] at ht'
    have hfalse : (flds (bs.take (n - 3))).2 = false → rd bs = (fz, 4) := fun h => rd_l bs (by omega) (by omega) ht' (by rw [hl]; exact h)
    have hnot : ∀ P : Prop, (∀ q, flds (bs.take (n - 3)) = (q, true) → P) → ¬ P → (flds (bs.take (n - 3))).2 = false := fun P h hP => by
      cases hq : (flds (bs.take (n - 3))).2 with
      | false => rfl
      | true => exact absurd (h (flds (bs.take (n - 3))).1 (by rw [← hq])) hP
    by_cases hs3 : n - 3 < 3
    · rw [hfalse (hnot False (fun q hq => by obtain ⟨_, _, _, _, _, _, hh⟩ := flds_true _ hot q hq; omega) (fun h => h))]
      exact refread_few A n c _ w hO (by omega)
    · obtain ⟨s, p, e, hv⟩ : ∃ s p e, tv true 0 3 ((bs.take (n - 3)).drop 3) = (s, p, e) := ⟨_, _, _, rfl⟩
      obtain ⟨_, hpl⟩ := tv_place _ 3 s p e hot (by omega) hv
      by_cases hform : e ≠ 0 ∨ (bs.take (n - 3)).length ≠ p + 2
      · rw [hfalse (hnot False (fun q hq => by
          obtain ⟨_, _, _, _, _, h6, h7⟩ := flds_true _ hot q hq
          rw [hv] at h6
          have h8 := Prod.mk.inj h6
          have h9 := Prod.mk.inj h8.2
          omega) (fun h => h))]
        exact refread_form A n c s p e _ w hO hot (by omega) (by omega) hv hpl hform
      · obtain ⟨rfl, hp⟩ : e = 0 ∧ (bs.take (n - 3)).length = p + 2 := by
          constructor
          · apply Decidable.byContradiction; intro h; exact hform (.inl h)
          · apply Decidable.byContradiction; intro h; exact hform (.inr h)
        obtain ⟨_, hp3, _, _⟩ := tv_pos _ s p (hot.drop 3) hv
        obtain ⟨a1, h1⟩ : ∃ a, (bs.take (n - 3))[1]? = some a := ⟨_, List.getElem?_eq_getElem (by omega)⟩
        obtain ⟨a2, h2⟩ : ∃ a, (bs.take (n - 3))[2]? = some a := ⟨_, List.getElem?_eq_getElem (by omega)⟩
        obtain ⟨y, h3'⟩ : ∃ a, (bs.take (n - 3))[p]? = some a := ⟨_, List.getElem?_eq_getElem (by omega)⟩
        obtain ⟨z, h4⟩ : ∃ a, (bs.take (n - 3))[p + 1]? = some a := ⟨_, List.getElem?_eq_getElem (by omega)⟩
        have oy := hot _ (List.mem_of_getElem? h3')
        have oz := hot _ (List.mem_of_getElem? h4)
        have hrd : rd bs = if OkF ⟨(a1 : Int), (a2 : Int), s, y * 256 + z⟩ ∧ sealedF ⟨(a1 : Int), (a2 : Int), s, y * 256 + z⟩ = bs then (⟨(a1 : Int), (a2 : Int), s, y * 256 + z⟩, 0) else (fz, 4) := by
          split
          · rename_i h
            rw [← h.2]
            exact rd_sealed _ h.1 (by simp only; omega)
          · rename_i h
            unfold rd
            rw [if_neg (by omega), if_neg (by omega), if_pos ht']
            split
            · rename_i hc
              have hrd : rd bs = (frOf (flds (bs.take (bs.length - 3))).1, 0) := by
                unfold rd
                rw [if_neg (by omega), if_neg (by omega), if_pos ht', if_pos hc]
              obtain ⟨k1, k2, k3⟩ := rd_ok bs ho _ hrd
              generalize frOf (flds (bs.take (bs.length - 3))).1 = x at *
              have hb : bs.take (n - 3) = bare x := by
                have e1 : n - 3 = (bare x).length := by
                  have := congrArg List.length k3
                  rw [sealedF, List.length_append, hl] at this
                  simp only [tail24, List.length_cons, List.length_nil] at this; omega
                rw [e1, k3]; exact List.take_left
              rw [hb] at hv h1 h2 h3' h4
              have := cand_eq x k1 k2 s p a1 a2 y z hv h1 h2 h3' h4
              rw [this] at h
              exact absurd ⟨k1, k3.symm⟩ h
            · rfl
        refine (refread_cand A n c B a1 a2 s p y z bs (bs.take (n - 3)) w ha hB ho hO hot (by omega) hv hp (by omega) h1 h2 h3' h4).mono ?_
        rintro e w' ⟨rfl, b⟩
        refine ⟨?_, b⟩
        rw [hrd]
        split <;> rfl
  · have hr : rd bs = (fz, 5) := by unfold rd; rw [if_neg (by omega), if_neg (by omega), hl, if_neg ht]
    rw [hr]
    exact refread_none A n c 5 w rfl (fun w' hb => by
      have := refopen24_any A n c B bs false w' (ha.below (hb.mono hB)) (Nat.le_trans hB hb.size) ho (by omega) (by omega) hnc (decide_eq_false ht)
      simpa using this)
end Go.Proofs.Ytldegdhpblkhhaa
