/-
  Write, and the document's own: what they answer, at every frame.
-/
import Derived.Test.YtldegdhpblkhhaaN
import Derived.Test.YtldegdhpblkhhaaWS
import Derived.Test.YtldegdhpblkhhaaWH
import Derived.Test.YtldegdhpblkhhaaL
namespace Go.Proofs.Ytldegdhpblkhhaa
open Go Go.RowKit

theorem vary_two (k f s : Nat) (w : World) (hs : s < 18446744073709551616) :
    Calls Try.prog 27 #[.slice (some ⟨w.heap.size, 0, none⟩) 3 3, .slice (some ⟨w.heap.size + 1, 0, none⟩) 1 1] ((w.alloc (Obj.cells #[.int .u8 161, .int .u8 (k : Int), .int .u8 (f : Int)] 5)).alloc (Obj.cells #[.int .u64 (s : Int)] 22))
      fun e w' => ∃ A n c, e = .returned (.slice A n c) ∧ Own w' w.heap.size 5 A n c (bv ([161, k, f] ++ vary s)) ∧ Below w.heap.size w w' := by
  have h1 : Row ((w.alloc (Obj.cells #[.int .u8 161, .int .u8 (k : Int), .int .u8 (f : Int)] 5)).alloc (Obj.cells #[.int .u64 (s : Int)] 22)) (w.heap.size + 1) (some ⟨w.heap.size, 0, none⟩) 3 (bv [161, k, f]) :=
    (Row.laid' w 5 [.int .u8 161, .int .u8 (k : Int), .int .u8 (f : Int)] w.heap.size rfl).alloc (by simp) _
  have h2 : Row ((w.alloc (Obj.cells #[.int .u8 161, .int .u8 (k : Int), .int .u8 (f : Int)] 5)).alloc (Obj.cells #[.int .u64 (s : Int)] 22)) (w.heap.size + 2) (some ⟨w.heap.size + 1, 0, none⟩) 1 (uv [s]) :=
    Row.laid' (w.alloc (Obj.cells #[.int .u8 161, .int .u8 (k : Int), .int .u8 (f : Int)] 5)) 22 [.int .u64 (s : Int)] (w.heap.size + 1) (by simp)
  have hx : ∀ x ∈ [s], x < 18446744073709551616 := by intro x hx; simp at hx; omega
  refine (vary_any _ _ 3 3 1 1 (w.heap.size + 1) (w.heap.size + 2) [161, k, f] [s] _ h1 (by simp) h2 (by simp) hx (by omega) (by omega)).mono ?_
  rintro e w3 ⟨A3, n3, c3, rfl, own3, bel3⟩
  rw [varies1] at own3
  exact ⟨A3, n3, c3, rfl, own3.base_le (by simp; omega), (((Below.refl _ w).alloc (Nat.le_refl _) _).alloc (by simp) _).trans (bel3.mono (by simp; omega))⟩
theorem refvary_two (k f s : Nat) (w : World) (hs : s < 18446744073709551616) :
    Calls Try.prog 26 #[.slice (some ⟨w.heap.size, 0, none⟩) 3 3, .slice (some ⟨w.heap.size + 1, 0, none⟩) 1 1] ((w.alloc (Obj.cells #[.int .u8 161, .int .u8 (k : Int), .int .u8 (f : Int)] 5)).alloc (Obj.cells #[.int .u64 (s : Int)] 22))
      fun e w' => ∃ A n c, e = .returned (.slice A n c) ∧ Own w' w.heap.size 5 A n c (bv ([161, k, f] ++ vary s)) ∧ Below w.heap.size w w' := by
  have h1 : Row ((w.alloc (Obj.cells #[.int .u8 161, .int .u8 (k : Int), .int .u8 (f : Int)] 5)).alloc (Obj.cells #[.int .u64 (s : Int)] 22)) (w.heap.size + 1) (some ⟨w.heap.size, 0, none⟩) 3 (bv [161, k, f]) :=
    (Row.laid' w 5 [.int .u8 161, .int .u8 (k : Int), .int .u8 (f : Int)] w.heap.size rfl).alloc (by simp) _
  have h2 : Row ((w.alloc (Obj.cells #[.int .u8 161, .int .u8 (k : Int), .int .u8 (f : Int)] 5)).alloc (Obj.cells #[.int .u64 (s : Int)] 22)) (w.heap.size + 2) (some ⟨w.heap.size + 1, 0, none⟩) 1 (uv [s]) :=
    Row.laid' (w.alloc (Obj.cells #[.int .u8 161, .int .u8 (k : Int), .int .u8 (f : Int)] 5)) 22 [.int .u64 (s : Int)] (w.heap.size + 1) (by simp)
  have hx : ∀ x ∈ [s], x < 18446744073709551616 := by intro x hx; simp at hx; omega
  refine (refVary_any _ _ 3 3 1 1 (w.heap.size + 1) (w.heap.size + 2) [161, k, f] [s] _ h1 h2 (by simp) hx (by omega) (by omega)).mono ?_
  rintro e w3 ⟨A3, n3, c3, rfl, own3, bel3⟩
  rw [varies1] at own3
  exact ⟨A3, n3, c3, rfl, own3.base_le (by simp; omega), (((Below.refl _ w).alloc (Nat.le_refl _) _).alloc (by simp) _).trans (bel3.mono (by simp; omega))⟩
theorem write_bad (x : Fr) (w : World) (h : ¬ OkF x) : Calls Try.prog 9 #[fv x] w (RetE w.heap.size [] 1 w) := by
  have HC := hid (fun w => check_any x w)
  rw [okE_bad h] at HC
  clear h
  go_enter Try.func9, Try.ntmps9
  go_wp2_with (first
    | (go_at_call 15; (with_reducible refine (HC.out w1).mono ?_); rintro e w2 ⟨rfl, b2⟩)
    | (refine wpList_ldf rfl (.tmp 1) rfl rfl v1 ?_)
    | (refine wpList_boxf (x := x) rfl (.tmp 0) rfl rfl ?_; intro w1 v1 b1 s1))
  go_ret2
  exact ⟨none, 0, 0, rfl, Own.nil _ _ _, b1.trans (b2.mono b1.size)⟩
set_option maxRecDepth 100000 in
set_option maxHeartbeats 1000000 in
theorem write_in (k f s m : Nat) (w : World) (h : OkF ⟨k, f, s, m⟩) (hm : m < 65536) : Calls Try.prog 9 #[fv ⟨k, f, s, m⟩] w (RetE w.heap.size (bv (sealedF ⟨k, f, s, m⟩)) 0 w) := by
  have HC := hid (fun w => check_any ⟨k, f, s, m⟩ w)
  rw [okE_ok h] at HC
  have HO := hid (bare_oct _ h)
  have HL := hid (bare_len ⟨k, f, s, m⟩)
  have HG := hid (gn_slot s h.2.2.2)
  have hk2 : k ≤ 2 := by have := h.1; simp only at this; omega
  have hf : f ≤ 15 := by have := h.2.2.1; simp only at this; omega
  have hs : s ≤ 4294967296 := h.2.2.2
  have HV : Hid ([161, k, f] ++ vary s ++ fixb m 2 = bare ⟨k, f, s, m⟩) := hid (List.append_assoc ..)
  have HF := hid (fixb2 m hm)
  clear h
  go_enter Try.func9, Try.ntmps9
  go_wp2_with (first
    | (go_at_call 27; refine (vary_two k f s w2 (by omega)).mono ?_; rintro e w3 ⟨A3, n3, l3, rfl, own3, b3⟩; have v3 := v2.keep b3; have B3 : Hid (Below w.heap.size w w3) := hid (B2.out.trans (b3.mono B2.out.size)); have c3 : w3.cell? ⟨w.heap.size, 3, none⟩ = some (.int .u16 (m : Int)) := v3.c3; clear v2 b3)
    | (go_at_call 15; (with_reducible refine (HC.out w1).mono ?_); rintro e w2 ⟨rfl, b2⟩; have v2 := v1.keep b2; have B2 : Hid (Below w.heap.size w w2) := hid (b1.trans (b2.mono b1.size)); clear v1 b1 b2; have c0 : w2.cell? ⟨w.heap.size, 0, none⟩ = some (.int .i64 (k : Int)) := v2.c0; have c1 : w2.cell? ⟨w.heap.size, 1, none⟩ = some (.int .i64 (f : Int)) := v2.c1; have c2 : (w2.alloc (Obj.cells #[.int .u8 161, .int .u8 (k : Int), .int .u8 (f : Int)] 5)).cell? ⟨w.heap.size, 2, none⟩ = some (.int .u64 (s : Int)) := (v2.keep ((Below.refl _ _).alloc (Nat.le_refl _) _)).c2)
    | (refine wpList_ldf rfl (.tmp 1) rfl rfl v1 ?_)
    | (refine wpList_boxf (x := ⟨k, f, s, m⟩) rfl (.tmp 0) rfl rfl ?_; intro w1 v1 b1 s1))
  have hn3 : n3 ≤ 10 := by
    have h1 := own3.len; have h2 := HG.out
    rw [bv_len, List.length_append, vary_len] at h1; simp only [List.length_cons, List.length_nil] at h1; omega
  have HN : Hid (Row w3 w3.heap.size A3 n3 (bv ([161, k, f] ++ vary s))) := hid own3.row
  clear own3
  refine (fixed_ok A3 n3 l3 w3.heap.size 2 m _ w3 HN.out (Nat.le_refl _) (by omega) (by omega) (by omega) hm).mono ?_
  rintro e w4 ⟨A4, n4, l4, rfl, own4, b4⟩
  rw [HV.out] at own4
  have HR : Hid (Row w4 w4.heap.size A4 n4 (bv (bare ⟨k, f, s, m⟩))) := hid own4.row
  have hn4 : n4 ≤ 10 := by have h1 := own4.len; have h2 := HG.out; rw [bv_len, HL.out] at h1; omega
  have B4 : Hid (Below w.heap.size w w4) := hid (B3.out.trans (b4.mono B3.out.size))
  clear own4 b4 HN
  go_wp2_with (go_at_call 13; refine (seal24_ok A4 n4 l4 w4.heap.size _ w4 HR.out (Nat.le_refl _) HO.out (by omega)).mono ?_; rintro e w5 ⟨A5, n5, l5, rfl, own5, b5⟩)
  go_ret2
  exact ⟨A5, n5, l5, rfl, own5.base_le B4.out.size, B4.out.trans (b5.mono B4.out.size)⟩
theorem refwrite_bad (x : Fr) (w : World) (h : ¬ OkF x) : Calls Try.prog 10 #[fv x] w (RetE w.heap.size [] 1 w) := by
  have HC := hid (fun w => refcheck_any x w)
  rw [okE_bad h] at HC
  clear h
  go_enter Try.func10, Try.ntmps10
  go_wp2_with (first
    | (go_at_call 16; (with_reducible refine (HC.out w1).mono ?_); rintro e w2 ⟨rfl, b2⟩)
    | (refine wpList_ldf rfl (.tmp 1) rfl rfl v1 ?_)
    | (refine wpList_boxf (x := x) rfl (.tmp 0) rfl rfl ?_; intro w1 v1 b1 s1))
  go_ret2
  exact ⟨none, 0, 0, rfl, Own.nil _ _ _, b1.trans (b2.mono b1.size)⟩
set_option maxRecDepth 100000 in
set_option maxHeartbeats 1000000 in
theorem refwrite_in (k f s m : Nat) (w : World) (h : OkF ⟨k, f, s, m⟩) (hm : m < 65536) : Calls Try.prog 10 #[fv ⟨k, f, s, m⟩] w (RetE w.heap.size (bv (sealedF ⟨k, f, s, m⟩)) 0 w) := by
  have HC := hid (fun w => refcheck_any ⟨k, f, s, m⟩ w)
  rw [okE_ok h] at HC
  have HO := hid (bare_oct _ h)
  have HL := hid (bare_len ⟨k, f, s, m⟩)
  have HG := hid (gn_slot s h.2.2.2)
  have hk2 : k ≤ 2 := by have := h.1; simp only at this; omega
  have hf : f ≤ 15 := by have := h.2.2.1; simp only at this; omega
  have hs : s ≤ 4294967296 := h.2.2.2
  have HV : Hid ([161, k, f] ++ vary s ++ fixb m 2 = bare ⟨k, f, s, m⟩) := hid (List.append_assoc ..)
  have HF := hid (fixb2 m hm)
  have hd : (m : Int).tdiv 256 = ((m / 256 : Nat) : Int) := by rw [Int.tdiv_eq_ediv_of_nonneg (Int.natCast_nonneg _)]; norm_cast
  have hr : (m : Int).tmod 256 = ((m % 256 : Nat) : Int) := by rw [Int.tmod_eq_emod_of_nonneg (Int.natCast_nonneg _)]; norm_cast
  have hd1 : m / 256 < 256 := by omega
  have hr1 : m % 256 < 256 := by omega
  generalize m / 256 = dd at *
  generalize m % 256 = rr at *
  clear h
  go_enter Try.func10, Try.ntmps10
  go_wp2_with (first
    | (go_at_call 26; refine (refvary_two k f s w2 (by omega)).mono ?_; rintro e w3 ⟨A3, n3, l3, rfl, own3, b3⟩; have v3 := v2.keep b3; have B3 : Hid (Below w.heap.size w w3) := hid (B2.out.trans (b3.mono B2.out.size)); have c3 : w3.cell? ⟨w.heap.size, 3, none⟩ = some (.int .u16 (m : Int)) := v3.c3; clear v2 b3; have hn3 : n3 ≤ 10 := (by have h1 := own3.len; have h2 := HG.out; rw [bv_len, List.length_append, vary_len] at h1; simp only [List.length_cons, List.length_nil] at h1; omega); have hz3 : w.heap.size ≤ w3.heap.size := B3.out.size; have O3 : Hid (Own w3 w.heap.size 5 A3 n3 l3 (bv ([161, k, f] ++ vary s))) := hid (own3.base_le B2.out.size); clear own3)
    | (at_builtin; refine wpList_app _ rfl (.tmp 22) (.tmp 31) 26 rfl w.heap.size 5 (.int .u8 0) 1 Try.underlying26 info5 rfl A3 n3 l3 _ rfl (O3.out.alloc _) (w3.heap.size + 1) _ 2 2 [_, _] rfl (Row.laid w3 5 [_, _]) (by intro u hu; simp at hu; rcases hu with rfl | rfl <;> rfl) (by omega) (by omega) (by simp; omega) ?_; intro A4 l4 w4 own4 b4)
    | (go_at_call 16; (with_reducible refine (HC.out w1).mono ?_); rintro e w2 ⟨rfl, b2⟩; have v2 := v1.keep b2; have B2 : Hid (Below w.heap.size w w2) := hid (b1.trans (b2.mono b1.size)); clear v1 b1 b2; have c0 : w2.cell? ⟨w.heap.size, 0, none⟩ = some (.int .i64 (k : Int)) := v2.c0; have c1 : w2.cell? ⟨w.heap.size, 1, none⟩ = some (.int .i64 (f : Int)) := v2.c1; have c2 : (w2.alloc (Obj.cells #[.int .u8 161, .int .u8 (k : Int), .int .u8 (f : Int)] 5)).cell? ⟨w.heap.size, 2, none⟩ = some (.int .u64 (s : Int)) := (v2.keep ((Below.refl _ _).alloc (Nat.le_refl _) _)).c2)
    | (refine wpList_ldf rfl (.tmp 1) rfl rfl v1 ?_)
    | (refine wpList_boxf (x := ⟨k, f, s, m⟩) rfl (.tmp 0) rfl rfl ?_; intro w1 v1 b1 s1))
  have hb4 : Below w.heap.size w w4 := (B3.out.alloc hz3 _).trans b4
  have B4 := hid hb4
  have HR : Hid (Row w4 w4.heap.size A4 (n3 + 2) (bv (bare ⟨k, f, s, m⟩))) := hid (by
    have := own4.row
    rw [← HV.out, HF.out, bv_app]; exact this)
  clear own4 b4 hb4
  go_wp2_with (go_at_call 29; refine (refseal24_ok A4 (n3 + 2) l4 w4.heap.size _ w4 HR.out (Nat.le_refl _) HO.out (by omega)).mono ?_; rintro e w5 ⟨A5, n5, l5, rfl, own5, b5⟩)
  go_ret2
  exact ⟨A5, n5, l5, rfl, own5.base_le B4.out.size, B4.out.trans (b5.mono B4.out.size)⟩
theorem write_ok (x : Fr) (w : World) (h : OkF x) (hm : x.m < 65536) : Calls Try.prog 9 #[fv x] w (RetE w.heap.size (bv (sealedF x)) 0 w) := by
  obtain ⟨k, f, s, m⟩ := x
  have h' := h
  obtain ⟨h1, h2, h3, h4⟩ := h'
  simp only at h1 h2 h3 h4 hm
  obtain ⟨a, rfl⟩ : ∃ a : Nat, k = a := ⟨k.toNat, by omega⟩
  obtain ⟨b, rfl⟩ : ∃ b : Nat, f = b := ⟨f.toNat, by omega⟩
  exact write_in a b s m w h hm
theorem refwrite_ok (x : Fr) (w : World) (h : OkF x) (hm : x.m < 65536) : Calls Try.prog 10 #[fv x] w (RetE w.heap.size (bv (sealedF x)) 0 w) := by
  obtain ⟨k, f, s, m⟩ := x
  have h' := h
  obtain ⟨h1, h2, h3, h4⟩ := h'
  simp only at h1 h2 h3 h4 hm
  obtain ⟨a, rfl⟩ : ∃ a : Nat, k = a := ⟨k.toNat, by omega⟩
  obtain ⟨b, rfl⟩ : ∃ b : Nat, f = b := ⟨f.toNat, by omega⟩
  exact refwrite_in a b s m w h hm
end Go.Proofs.Ytldegdhpblkhhaa
