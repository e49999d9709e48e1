/-
  slices.Delete of one thing out of an own slice. What is asked: what its head says.
-/
import Derived.Test.YtjmkhhmibkiijaaF
import Derived.Deep.RegionLaw
import Derived.Lib.SliceRun
namespace Go.Proofs.Ytjmkhhmibkiijaa
open Go Go.RowKit

theorem run_clear8 (w : World) (ty : TypeId) (b o c : Nat) (hc : ∀ j, j < 8 → (w.cell? ⟨b, o + j, none⟩).isSome = true) (hf : ∀ j, j < 8 → w.frozen? ⟨b, o + j, none⟩ = false) :
    (Builtin.clear_ #[34] ty #[.slice (some ⟨b, o, none⟩) 1 c]).run Try.prog w = .ok (.tuple #[]) (w.setCells b o (enc az)) := by
  have hzc : (Builtin.zeroCells (Value.agg #[.int .u64 0, .int .i64 0, .int .i64 0, .int .i64 0, .int .i64 0, .slice none 0 0, .bool false, .int .i64 0]).cells 1).toList = enc az := by kernel_rfl
  have hst := run_storeCells_cells (P := Try.prog) b o (enc az) 0 w (by simpa [enc_len] using hc) (by simpa [enc_len] using hf) (enc_one az)
  simp only [Nat.add_zero] at hst
  simp [Builtin.clear_, run_underlying Try.underlying34, hzc, hst]
/-- Without the one at k. -/
def without (l : List Ar) (k : Nat) : List Ar := l.take k ++ l.drop (k + 1)
theorem without_len {l : List Ar} {k : Nat} (h : k < l.length) : (without l k).length = l.length - 1 := by
  unfold without; rw [List.length_append, List.length_take, List.length_drop]; omega
theorem nth_without {l : List Ar} {k j : Nat} (h : k < l.length) : nth (without l k) j = if j < k then nth l j else nth l (j + 1) := by
  unfold without nth List.getD
  by_cases hj : j < k
  · rw [if_pos hj, List.getElem?_append_left (by rw [List.length_take]; omega), List.getElem?_take, if_pos hj]
  · rw [if_neg hj, List.getElem?_append_right (by rw [List.length_take]; omega), List.length_take, Nat.min_eq_left (by omega), List.getElem?_drop, show k + 1 + (j - k) = j + 1 by omega]
theorem setL_del (l : List Ar) (k : Nat) (hk : k < l.length) : setL (setL (flat l) (k * 8) (flat (l.drop (k + 1)))) ((l.length - 1) * 8) (enc az) = flat (without l k ++ [az]) := by
  have e1 : flat l = flat (l.take k) ++ (((flat (l.drop k)).take ((l.length - 1 - k) * 8)) ++ ((flat (l.drop k)).drop ((l.length - 1 - k) * 8))) := by
    rw [List.take_append_drop, ← flat_app, List.take_append_drop]
  have hd : (flat (l.drop k)).length = (l.length - k) * 8 := by rw [flat_len, List.length_drop]
  have hn : (flat (l.drop (k + 1))).length = (l.length - 1 - k) * 8 := by rw [flat_len, List.length_drop, show l.length - (k + 1) = l.length - 1 - k by omega]
  have ht : (flat (l.take k)).length = k * 8 := by rw [flat_len, List.length_take, Nat.min_eq_left (by omega)]
  have h1 : setL (flat l) (k * 8) (flat (l.drop (k + 1))) = flat (l.take k) ++ (flat (l.drop (k + 1)) ++ ((flat (l.drop k)).drop ((l.length - 1 - k) * 8))) := by
    conv => lhs; rw [e1, ← ht]
    exact setL_mid _ _ _ _ (by rw [List.length_take, hd, hn]; omega)
  rw [h1]
  have h2 := setL_mid (enc az) (flat (l.take k) ++ flat (l.drop (k + 1))) ((flat (l.drop k)).drop ((l.length - 1 - k) * 8)) [] (by rw [List.length_drop, hd, enc_len]; omega)
  have h3 : (flat (l.take k) ++ flat (l.drop (k + 1))).length = (l.length - 1) * 8 := by rw [List.length_append, ht, hn]; omega
  rw [List.append_nil, List.append_nil, List.append_assoc, h3] at h2
  rw [h2]
  unfold without
  rw [flat_app, flat_app, List.append_assoc]
  simp [flat]
/-- What is told: the same row, one less; only its block has turned. -/
def RetD (base g n c : Nat) (l : List Ar) (k : Nat) (w : World) (e : Ending) (w' : World) : Prop :=
  e = .returned (.slice (some ⟨g, 0, none⟩) (n - 1) c) ∧ Rw w' w'.heap.size (some ⟨g, 0, none⟩) (n - 1) (without l k) ∧ Oth g w w' ∧ Below base w w'
set_option maxRecDepth 100000 in
set_option maxHeartbeats 2000000 in
theorem del_any (base g n c k j : Nat) (l : List Ar) (w : World) (ho : Ow w base (some ⟨g, 0, none⟩) n c l) (hk : k < n) (hj : j = k + 1) :
    Calls Try.prog 33 #[.slice (some ⟨g, 0, none⟩) n c, .int .i64 (k : Int), .int .i64 (j : Int)] w (RetD base g n c l k w) := by
  have hnc := ho.cap
  have hl := ho.len
  obtain ⟨i, hi0, hi1, hi2, hi3⟩ := info_parts info25
  obtain ⟨news, hnews⟩ : ∃ news, news = flat (l.drop (k + 1)) := ⟨_, rfl⟩
  have hlen : news.length = (n - j) * 8 := by rw [hnews, flat_len, List.length_drop, hl, hj]
  have hod : Ow w.drew base (some ⟨g, 0, none⟩) n c l := ho
  have hfl : flat l = flat (l.take j) ++ news := by rw [hnews, ← flat_app, ← hj, List.take_append_drop]
  have htl : (flat (l.take j)).length = j * 8 := by rw [flat_len, List.length_take, Nat.min_eq_left (by omega)]
  obtain ⟨A, hA, hsrc⟩ : ∃ A : Addr, (if c = j then (some ⟨g, 0, none⟩ : Option Addr) else some ⟨g, j * 8, none⟩) = some A ∧ Hid (∀ t u, news[t]? = some u → w.drew.cell? (A.add t) = some u) := by
    by_cases h : c = j
    · refine ⟨⟨g, 0, none⟩, by simp [h], fun t u hu => ?_⟩
      have h0 : news.length = 0 := by rw [hlen]; omega
      rw [List.length_eq_zero_iff.1 h0] at hu
      simp at hu
    · refine ⟨⟨g, j * 8, none⟩, by simp [h], fun t u hu => ?_⟩
      rw [plain_add]
      obtain ⟨b', o', e', _, hc'⟩ := hod.row.2 (by omega)
      injection e' with e'; injection e' with e1 e2; subst e1; subst e2
      have := hc' (j * 8 + t) u (by rw [hfl, List.getElem?_append_right (by rw [htl]; omega), htl, Nat.add_sub_cancel_left]; exact hu)
      rwa [Nat.zero_add] at this
  have s1 : Hid (news.length = (n - j) * 8) := hlen
  have s2 : Hid (∀ u ∈ news, u.oneCell' = true) := hid (by rw [hnews]; exact flat_one _)
  have s3 : Hid (∀ t, t < news.length → (w.drew.cell? ⟨g, 0 + k * 8 + t, none⟩).isSome = true ∧ w.drew.frozen? ⟨g, 0 + k * 8 + t, none⟩ = false) := hid fun t ht => by
    rw [hlen] at ht
    rw [Nat.zero_add]
    refine ⟨?_, World.ownsRow.frozenAt hod _⟩
    obtain ⟨b', o', e', _, hc'⟩ := hod.row.2 (by omega)
    injection e' with e'; injection e' with e1 e2; subst e1; subst e2
    have hlt : k * 8 + t < (flat l).length := by rw [flat_len, hl]; omega
    have := hc' (k * 8 + t) _ (List.getElem?_eq_getElem hlt)
    rw [Nat.zero_add] at this
    rw [this]; rfl
  obtain ⟨W1, hW1⟩ : ∃ W1, W1 = w.drew.setCells g (0 + k * 8) news := ⟨_, rfl⟩
  have hge : base ≤ g := ho.ge.1
  have ho1 := ownsRow_setCells news (k * 8) w.drew _ hod hge
  have ho2 := ownsRow_setCells (enc az) ((n - 1) * 8) _ _ ho1.1 hge
  have hset := setL_del l k (by rw [hl]; exact hk)
  rw [hl, ← hnews] at hset
  rw [hset] at ho2
  have hW1' : W1 = w.drew.setCells g (k * 8) news := by rw [hW1, Nat.zero_add]
  rw [← hW1'] at ho2 ho1
  have hOW : Hid (Ow (W1.setCells g ((n - 1) * 8) (enc az)) base (some ⟨g, 0, none⟩) n c (without l k ++ [az])) := hid ho2.1
  have hBW : Hid (Below base w (W1.setCells g ((n - 1) * 8) (enc az))) := hid (((Below.refl _ w).drew.trans ho1.2).trans ho2.2)
  have hTW : Hid (Oth g w (W1.setCells g ((n - 1) * 8) (enc az))) := hid fun q hq => ((setCells_oth g _ _ _).2 q hq).trans (by rw [hW1']; exact (setCells_oth g _ _ _).2 q hq)
  have hcl : Hid (∀ ty, (Builtin.clear_ #[34] ty #[.slice (some ⟨g, (n - 1) * 8, none⟩) 1 (c - (n - 1))]).run Try.prog W1 = .ok (.tuple #[]) (W1.setCells g ((n - 1) * 8) (enc az))) := hid fun ty => by
    refine run_clear8 W1 ty g ((n - 1) * 8) _ (fun t ht => ?_) (fun t ht => World.ownsRow.frozenAt ho1.1 _)
    have hlt : (n - 1) * 8 + t < (setL (flat l) (k * 8) news).length := by
      have := ho1.1.1
      rw [this]; omega
    have := World.ownsRow.cells ho1.1 (g := g) rfl ((n - 1) * 8 + t) _ (List.getElem?_eq_getElem hlt)
    rw [plain_add, Nat.zero_add] at this
    rw [this]; rfl
  have h1 : (k : Int) ≤ (j : Int) := by omega
  have h2 : (j : Int) ≤ (n : Int) := by omega
  have h3 : ((k : Int) == (j : Int)) = false := by simp; omega
  have hkc : k ≤ c := by omega
  have hjn : j ≤ n := by omega
  have hjc : j ≤ c := by omega
  have hcl' : ∀ ty, (Builtin.clear_ #[34] ty #[.slice (some ⟨g, (k + (n - j)) * 8, none⟩) (n - (k + (n - j))) (c - (k + (n - j)))]).run Try.prog W1 = .ok (.tuple #[]) (W1.setCells g ((n - 1) * 8) (enc az)) := by
    rw [show k + (n - j) = n - 1 by omega, show n - (n - 1) = 1 by omega]; exact hcl.out
  have hne : ¬ c = k + (n - j) := by omega
  have HN : Hid (k + (n - j) = n - 1) := hid (by omega)
  have HLN := hid hl
  have hW : Hid (W1 = w.drew.setCells g (0 + k * 8) news) := hid hW1
  have HJ := hid hj
  clear hW1 hW1' ho1 ho2 hset hge hfl htl hlen hnews hod hl ho hi1 hi3 hj
  go_enter Try.func33, Try.ntmps33
  go_wp2_with fail
  go_region_law (refine step_append_room rfl (.tmp 22) (.tmp 25) 34 rfl 25 i 8 Try.underlying34 hi0 hi2 g 0 k c (by simp [Act.eval, Act.put]) A (n - j) (c - j) news (by simp [Act.eval, Act.put]) s1.out hsrc.out s2.out (by omega) s3.out ?_; rw [← hW.out])
  go_wp2
  go_ret
  refine ⟨by rw [HN.out]; rfl, ?_, hTW.out, hBW.out⟩
  have hr := hOW.out.row.cut (l := 0) (r := n - 1) (c := c) (by omega) (by omega) hnc
  rw [if_neg (by omega)] at hr
  have e1 : ((without l k ++ [az]).take (n - 1)).drop 0 = without l k := by
    rw [List.drop_zero, List.take_left' (by rw [without_len (by rw [HLN.out]; exact hk), HLN.out])]
  rw [e1, Nat.sub_zero] at hr
  simpa [plain_add] using hr
end Go.Proofs.Ytjmkhhmibkiijaa
