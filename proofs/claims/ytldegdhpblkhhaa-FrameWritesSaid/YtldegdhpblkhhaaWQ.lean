/-
  Contracts of the document's own answers for layer 2: vary, Vary, Sign, Fixed, Record.
-/
import Derived.Test.YtldegdhpblkhhaaWF
namespace Go.Proofs.Ytldegdhpblkhhaa
open Go Go.RowKit

theorem Own.laid (w : World) (base : Nat) (cs : List Value) (hb : base ≤ w.heap.size) (hm : cs.length ≤ 100) : Own (w.alloc (.cells cs.toArray 5)) base 5 (some ⟨w.heap.size, 0, none⟩) cs.length cs.length cs :=
  ⟨by simp, .inr ⟨w.heap.size, cs.length, cs.toArray, rfl, hb, heap_alloc_new w _, Nat.le_refl _, by unfold maxLen; omega, by simp, by simp⟩⟩

set_option maxRecDepth 100000 in
theorem refvary_small (x : Nat) (w : World) (h1 : x < 128) : Calls Try.prog 40 #[.int .u64 (x : Int)] w (RetB w.heap.size (bv (vary x)) w) := by
  have HV := hid (vary_small x h1)
  go_enter Try.func40, Try.ntmps40
  go_wp2_with fail
  go_ret
  refine ⟨_, 1, 1, rfl, ?_, (Below.refl _ _).alloc (Nat.le_refl _) _⟩
  rw [HV.out]
  exact Own.laid w w.heap.size [.int .u8 (x : Int)] (Nat.le_refl _) (by simp)

set_option maxRecDepth 100000 in
set_option maxHeartbeats 1000000 in
theorem refvary_big (x : Nat) (w : World) (h1 : 128 ≤ x) (hx : x < 18446744073709551616) (hi : Calls Try.prog 40 #[.int .u64 ((x / 128 : Nat) : Int)] w (RetB w.heap.size (bv (vary (x / 128))) w)) :
    Calls Try.prog 40 #[.int .u64 (x : Int)] w (RetB w.heap.size (bv (vary x)) w) := by
  have HV := hid (vary_big x hx h1)
  have HL := hid (vary_len (x / 128))
  have hg : gn (x / 128) ≤ 9 := gn_le _ (by omega)
  have HI := hid hi
  clear hi
  go_enter Try.func40, Try.ntmps40
  go_wp2_with fail
  have e0 : (x : Int) / 128 = ((x / 128 : Nat) : Int) := by omega
  rw [e0]
  clear e0
  refine (HI.out).mono ?_
  rintro e w1 ⟨A1, n1, c1, rfl, own1, bel1⟩
  obtain ⟨k, hk⟩ : ∃ k, k = gn (x / 128) := ⟨_, rfl⟩
  obtain ⟨y, hy⟩ : ∃ y, y = x / 128 % 128 := ⟨_, rfl⟩
  have hn1 : n1 = k + 1 := by have := own1.len; rw [bv_len, HL.out] at this; omega
  subst hn1
  obtain ⟨g, rfl⟩ : ∃ g, A1 = some ⟨g, 0, none⟩ := by
    rcases own1.2 with ⟨h, _⟩ | ⟨g, cap, cur, h, _⟩
    · simp at h
    · exact ⟨g, by injection h⟩
  have hgl : w.heap.size ≤ g := (World.ownsRow.lt own1 g rfl).1
  have evy : vary (x / 128) = grp (x / 128) k ++ [y] := by unfold vary; rw [← hk, ← hy]
  rw [evy] at own1
  have hlk : (bv (grp (x / 128) k)).length = k := by rw [bv_len, grp_len]
  have hcell : w1.cell? ⟨g, k, none⟩ = some (.int .u8 (y : Int)) := by
    rw [World.ownsRow.cellAt own1 k (by omega), bv_app, List.getElem?_append_right (by omega), hlk]
    simp [bv]
  have hfr : w1.frozen? ⟨g, k, none⟩ = false := World.ownsRow.frozenAt own1 k
  have hst := World.ownsRow.stored own1 k (.int .u8 ((y : Int) + 128))
  have eset : (bv (grp (x / 128) k ++ [y])).set k (.int .u8 ((y : Int) + 128)) = bv (grp (x / 128) k ++ [y + 128]) := by
    rw [bv_app, bv_app, List.set_append_right _ _ (by omega), hlk]
    simp [bv]
  rw [eset] at hst
  have HO : Hid (Own (w1.setCell ⟨g, k, none⟩ (.int .u8 ((y : Int) + 128))) w.heap.size 5 (some ⟨g, 0, none⟩) (k + 1) c1 (bv (grp (x / 128) k ++ [y + 128]))) := hid hst.1
  have HB : Hid (Below w.heap.size w (w1.setCell ⟨g, k, none⟩ (.int .u8 ((y : Int) + 128)))) := hid (bel1.setCell hgl _)
  have hy128 : y < 128 := by omega
  have HVY : Hid (vary x = grp (x / 128) k ++ [y + 128] ++ [x % 128]) := hid (by rw [HV.out, ← hk, ← hy])
  have hk9 : k ≤ 9 := by omega
  clear hst eset evy own1 bel1 hk hy HV HL HI hlk
  go_wp2_with (at_builtin; refine wpList_app _ rfl (.tmp 20) (.tmp 24) 26 rfl w.heap.size 5 (.int .u8 0) 1 Try.underlying26 info5 rfl _ (k + 1) c1 _ rfl (HO.out.alloc _) (w1.heap.size + 1) _ 1 1 [.int .u8 ((x : Int) % 128)] rfl (Row.laid' (w1.setCell ⟨g, k, none⟩ (.int .u8 ((y : Int) + 128))) 5 [.int .u8 ((x : Int) % 128)] w1.heap.size (by simp)) (by intro u hu; simp at hu; subst hu; rfl) (by omega) (by omega) (by have := HB.out.size; simp at this ⊢; omega) ?_; intro A2 c2 w2 own2 bel2)
  go_ret
  refine ⟨A2, _, c2, rfl, ?_, (HB.out.alloc HB.out.size _).trans bel2⟩
  rw [HVY.out, bv_app]
  exact own2

theorem refvary_any : ∀ (m x : Nat) (w : World), x < m → x < 18446744073709551616 → Calls Try.prog 40 #[.int .u64 (x : Int)] w (RetB w.heap.size (bv (vary x)) w)
  | 0, x, w, h, _ => absurd h (by omega)
  | m + 1, x, w, h, hx =>
    if h1 : x < 128 then refvary_small x w h1 else refvary_big x w (by omega) hx (refvary_any m (x / 128) w (by omega) (by omega))
end Go.Proofs.Ytldegdhpblkhhaa
