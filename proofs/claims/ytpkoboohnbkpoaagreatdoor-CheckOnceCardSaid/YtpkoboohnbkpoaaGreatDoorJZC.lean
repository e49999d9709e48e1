/-
  Plain words of what the laws of campaigns do: a statement put behind, once more or in a block; the same statements in another order, and those of the world alone. No condition.
-/
import Derived.Test.YtpkoboohnbkpoaaGreatDoorJZB
namespace Go.Proofs.YtpkoboohnbkpoaaGreatDoor
open Go

/-! ### One more behind -/
/-- A statement as a forest of one. -/
def oneFo (x : St) (y : Fo) : Fo := .cons x.w x.ns x.b y .nil
theorem oneFo_stL (x : St) (y : Fo) : (oneFo x y).stL = (x, false) :: y.flatL.map (fun z => (z, true)) := by
  unfold oneFo
  rw [Fo.stL_cons]
  simp [Fo.stL, Fo.flatL]
theorem Fine17.near_all {f : Fo} {ks : List (Ky × Nat)} (h : Fine17 f ks) : ∀ x ∈ f.flatL, x.beyond (toldF f.flatL).nodes = false := by
  have := h.near
  rw [List.findIdx?_eq_none_iff] at this
  exact this
theorem Fine17.each {f : Fo} {ks : List (Ky × Nat)} (h : Fine17 f ks) : ∀ p ∈ f.stL, oneE p.1 = 0 ∧ (p.1.world = true → p.2 = false ∧ ks.any (fun q => q.1 == p.1.key) = true) := (stand_ok h.st).1
theorem Fine17.more {f g : Fo} {ks : List (Ky × Nat)} (h : Fine17 f ks) (hc : chkE (f.app g) = 0) (hg : ∀ p ∈ g.stL, oneE p.1 = 0 ∧ p.1.world = false) (hb : ∀ x ∈ g.flatL, x.beyond (toldF f.flatL).nodes = false) : Fine17 (f.app g) ks ∧ toldF (f.app g).flatL = toldF f.flatL := by
  have ht : toldF (f.app g).flatL = toldF f.flatL := by
    unfold toldF
    rw [Fo.flatL_app, List.foldl_append, foldl_other fun x hx => by
      rw [← Fo.stL_fst] at hx
      obtain ⟨p, hp, rfl⟩ := List.mem_map.1 hx
      exact (hg p hp).2]
  refine ⟨⟨hc, ?_, h.four, by rw [ht]; exact h.ok, ?_⟩, ht⟩
  · rw [Fo.stL_app, stand_app, h.st]
    exact stand_more _ _ hg
  · rw [List.findIdx?_eq_none_iff, ht, Fo.flatL_app]
    intro x hx
    rcases List.mem_append.1 hx with hx | hx
    · exact h.near_all x hx
    · exact hb x hx
theorem chkF_stand {f : Fo} {p e : Nat} (hc : chkE f = 0) (hs : standF f.stL 0 [] = .bad p e) : chkF f = (p, e) := by
  unfold Fo.stL at hs
  unfold chkF
  rw [if_neg (by rw [hc]; simp), hs]
theorem chkF_arg {f : Fo} (hc : chkE f ≠ 0) : chkF f = (0, chkE f) := by unfold chkF; rw [if_pos hc]
/-- What stands in a campaign stands well again, but for what tells of the world. -/
theorem Fine17.part {a c : Fo} {x : St} {y : Fo} {ks : List (Ky × Nat)} (h : Fine17 (a.app ((oneFo x y).app c)) ks) : (oneE x = 0 ∧ (x.world = true → ks.any (fun q => q.1 == x.key) = true)) ∧ (∀ z ∈ y.flatL, oneE z = 0 ∧ z.world = false) ∧ (∀ z, z = x ∨ z ∈ y.flatL → z.beyond (toldF (a.app ((oneFo x y).app c)).flatL).nodes = false) := by
  have h1 := h.each
  have hn := h.near_all
  generalize toldF (a.app ((oneFo x y).app c)).flatL = T at *
  rw [Fo.stL_app, Fo.stL_app, oneFo_stL] at h1
  rw [Fo.flatL_app, Fo.flatL_app] at hn
  refine ⟨⟨(h1 (x, false) (by simp)).1, fun hw => ((h1 (x, false) (by simp)).2 hw).2⟩, fun z hz => ?_, fun z hz => hn z ?_⟩
  · have h2 := h1 (z, true) (by simp [hz])
    refine ⟨h2.1, ?_⟩
    cases hq : z.world with
    | false => rfl
    | true => have := (h2.2 hq).1; cases this
  · simp only [oneFo, Fo.flatL, List.mem_append, List.mem_cons]
    rcases hz with rfl | hz
    · exact .inr (.inl (.inl rfl))
    · exact .inr (.inl (.inr (.inl hz)))
theorem once_again {a c : Fo} {x : St} {y : Fo} {ks : List (Ky × Nat)} {f : Fo} (hf : f = a.app ((oneFo x y).app c)) (h : Fine17 f ks) (hc : chkE (f.app (oneFo x y)) = 0) (hw : x.world = true) : chkF (f.app (oneFo x y)) = (f.count, 7) := by
  subst hf
  obtain ⟨⟨h1, h2⟩, _, _⟩ := h.part
  refine chkF_stand hc ?_
  rw [Fo.stL_app, stand_app, h.st]
  simp only
  rw [oneFo_stL]
  simp only [standF]
  rw [if_neg (by rw [h1]; simp), if_neg (by rw [hw]; simp), if_neg (by simp), if_pos (h2 hw), Fo.stL_len, Nat.zero_add]
theorem once_other {a c : Fo} {x : St} {y : Fo} {ks : List (Ky × Nat)} {f : Fo} (hf : f = a.app ((oneFo x y).app c)) (h : Fine17 f ks) (hc : chkE (f.app (oneFo x y)) = 0) (hw : x.world = false) : chkF (f.app (oneFo x y)) = (0, 0) := by
  subst hf
  obtain ⟨⟨h1, _⟩, h3, h4⟩ := h.part
  refine fine_chkF (h.more hc (fun p hp => ?_) fun z hz => h4 z ?_).1
  · rw [oneFo_stL] at hp
    rcases List.mem_cons.1 hp with rfl | hp
    · exact ⟨h1, hw⟩
    · obtain ⟨z, hz, rfl⟩ := List.mem_map.1 hp
      exact h3 z hz
  · simp only [oneFo, Fo.flatL, List.append_nil] at hz
    rcases List.mem_cons.1 hz with rfl | hz
    · exact .inl rfl
    · exact .inr hz
def repSt : St := ⟨wRepeat, [(1, false), (0, true)], true⟩
theorem rep_one : oneE repSt = 0 := by decide
theorem rep_world : repSt.world = false := by decide
theorem rep_beyond (m : Int) : repSt.beyond m = false := by
  have h : repSt.named = [] := by decide
  unfold St.beyond; rw [h]; rfl
theorem rep_again {a c : Fo} {x : St} {y : Fo} {ks : List (Ky × Nat)} {f : Fo} (hf : f = a.app ((oneFo x y).app c)) (h : Fine17 f ks) (hc : chkE (f.app (oneFo repSt (oneFo x y))) = 0) (hw : x.world = true) : chkF (f.app (oneFo repSt (oneFo x y))) = (f.count + 1, 4) := by
  subst hf
  obtain ⟨⟨h1, h2⟩, _, _⟩ := h.part
  refine chkF_stand hc ?_
  rw [Fo.stL_app, stand_app, h.st]
  simp only
  rw [oneFo_stL]
  simp only [standF, oneFo, Fo.flatL, List.append_nil, List.map_cons]
  rw [if_neg (by rw [rep_one]; simp), if_pos rep_world, if_neg (by rw [h1]; simp), if_neg (by rw [hw]; simp), if_pos trivial, Fo.stL_len, Nat.zero_add]
theorem rep_other {a c : Fo} {x : St} {y : Fo} {ks : List (Ky × Nat)} {f : Fo} (hf : f = a.app ((oneFo x y).app c)) (h : Fine17 f ks) (hc : chkE (f.app (oneFo repSt (oneFo x y))) = 0) (hw : x.world = false) : chkF (f.app (oneFo repSt (oneFo x y))) = (0, 0) := by
  subst hf
  obtain ⟨⟨h1, _⟩, h3, h4⟩ := h.part
  refine fine_chkF (h.more hc (fun p hp => ?_) fun z hz => ?_).1
  · rw [oneFo_stL] at hp
    rcases List.mem_cons.1 hp with rfl | hp
    · exact ⟨rep_one, rep_world⟩
    · obtain ⟨z, hz, rfl⟩ := List.mem_map.1 hp
      simp only [oneFo, Fo.flatL, List.append_nil] at hz
      rcases List.mem_cons.1 hz with rfl | hz
      · exact ⟨h1, hw⟩
      · exact h3 z hz
  · simp only [oneFo, Fo.flatL, List.append_nil] at hz
    rcases List.mem_cons.1 hz with rfl | hz
    · exact rep_beyond _
    · rcases List.mem_cons.1 hz with rfl | hz
      · exact h4 _ (.inl rfl)
      · exact h4 _ (.inr hz)
/-- What is put behind a campaign. -/
theorem adds_is {f : Fo} {ks : List (Ky × Nat)} (h : Fine17 f ks) (x : St) (hw : x.world = false) (hc : chkE (f.app (oneFo x .nil)) = 0) :
    (oneE x ≠ 0 → chkF (f.app (oneFo x .nil)) = (f.count, oneE x)) ∧
    (oneE x = 0 → x.beyond (toldF f.flatL).nodes = true → chkF (f.app (oneFo x .nil)) = (f.count, 1)) ∧
    (oneE x = 0 → x.beyond (toldF f.flatL).nodes = false → Fine17 (f.app (oneFo x .nil)) ks ∧ toldF (f.app (oneFo x .nil)).flatL = toldF f.flatL) := by
  have hs : (oneFo x .nil).stL = [(x, false)] := by rw [oneFo_stL]; rfl
  have hfl : (oneFo x .nil).flatL = [x] := rfl
  refine ⟨fun h1 => chkF_stand hc ?_, fun h1 h2 => ?_, fun h1 h2 => h.more hc (fun p hp => ?_) fun z hz => ?_⟩
  · rw [Fo.stL_app, stand_app, h.st, hs]
    simp only [standF]
    rw [if_pos h1, Fo.stL_len, Nat.zero_add]
  · have hst : standF ((f.app (oneFo x .nil)).flatL.zip (f.app (oneFo x .nil)).inL) 0 [] = .ok ks := by
      show standF (f.app (oneFo x .nil)).stL 0 [] = _
      rw [Fo.stL_app, stand_app, h.st]
      exact stand_more _ _ (by rw [hs]; simp [h1, hw])
    have ht : toldF (f.app (oneFo x .nil)).flatL = toldF f.flatL := by
      unfold toldF
      rw [Fo.flatL_app, List.foldl_append, hfl, foldl_other (by simp [hw])]
    unfold chkF
    rw [if_neg (by rw [hc]; simp), hst]
    simp only
    rw [ht, h.four, h.ok, if_neg (by simp), if_neg (by simp), Fo.flatL_app, List.findIdx?_append, h.near, hfl, List.findIdx?_singleton, if_pos h2, Fo.flatL_len]
    simp
  · rw [hs] at hp
    simp only [List.mem_singleton] at hp
    subst hp
    exact ⟨h1, hw⟩
  · rw [hfl] at hz
    simp only [List.mem_singleton] at hz
    subst hz
    exact h2
/-! ### The same statements in another order, and those of the world alone -/
theorem filter_fst : ∀ (l : List (St × Bool)), (l.filter (fun p => p.1.world)).map (·.1) = (l.map (·.1)).filter St.world
  | [] => rfl
  | p :: l => by
    rw [List.filter_cons, List.map_cons, List.filter_cons, ← filter_fst l]
    cases p.1.world <;> rfl
theorem Fine17.turn {f g : Fo} {ks : List (Ky × Nat)} (h : Fine17 f ks) (hc : chkE g = 0) (hp : (f.stL.filter (fun p => p.1.world)).Perm (g.stL.filter (fun p => p.1.world))) (hm : ∀ p ∈ g.stL, p ∈ f.stL) : ∃ k2, Fine17 g k2 ∧ toldF g.flatL = toldF f.flatL := by
  obtain ⟨hk, hn⟩ := stand_keys h.st (by simp)
  rw [hk] at hn
  simp only [List.map_nil, List.nil_append] at hk hn
  have hwk : (wk f.stL).Perm (wk g.stL) := hp.map _
  obtain ⟨k2, hk2⟩ := stand_of (a := g.stL) 0 (ks := []) (fun p hpm => ⟨(h.each p (hm p hpm)).1, fun hw => ((h.each p (hm p hpm)).2 hw).1⟩) (by simpa using hwk.nodup hn)
  obtain ⟨hk3, _⟩ := stand_keys hk2 (by simp)
  simp only [List.map_nil, List.nil_append] at hk3
  have hpf : (f.flatL.filter St.world).Perm (g.flatL.filter St.world) := by
    rw [← Fo.stL_fst, ← Fo.stL_fst, ← filter_fst, ← filter_fst]
    exact hp.map _
  have ht : toldF g.flatL = toldF f.flatL := by
    unfold toldF
    rw [fold_perm (l := f.flatL) (m := g.flatL) ?_ ?_ hpf]
    · intro x hx
      rw [← Fo.stL_fst] at hx
      obtain ⟨p, hpm, rfl⟩ := List.mem_map.1 hx
      exact (h.each p hpm).1
    · rw [← Fo.stL_fst, ← filter_fst, List.map_map]
      exact hn
  refine ⟨k2, ⟨hc, hk2, ?_, by rw [ht]; exact h.ok, ?_⟩, ht⟩
  · have h4 := h.four
    rw [List.all_eq_true] at h4 ⊢
    intro w hw
    have := h4 w hw
    rw [hasW_iff] at this ⊢
    rw [hk3]; rw [hk] at this
    exact hwk.subset this
  · rw [List.findIdx?_eq_none_iff, ht]
    intro x hx
    rw [← Fo.stL_fst] at hx
    obtain ⟨p, hpm, rfl⟩ := List.mem_map.1 hx
    refine h.near_all p.1 ?_
    rw [← Fo.stL_fst]
    exact List.mem_map.2 ⟨p, hm p hpm, rfl⟩
namespace Fo
/-- the uppermost ones the other way round -/
def rev : Fo → Fo
  | nil => nil
  | cons w ns b y n => n.rev.app (cons w ns b y nil)
/-- those of the world -/
def wld : Fo → Fo
  | nil => nil
  | cons w ns b y n => if St.world ⟨w, ns, b⟩ = true then cons w ns b y n.wld else n.wld
theorem rev_perm (f : Fo) : f.stL.Perm f.rev.stL := by
  induction f with
  | nil => exact List.Perm.refl _
  | cons w ns b y n _ ih =>
    have e : (cons w ns b y n) = (cons w ns b y nil).app n := rfl
    have r : (cons w ns b y n).rev = n.rev.app (cons w ns b y nil) := rfl
    rw [r, e, stL_app, stL_app]
    exact (List.perm_append_comm).trans (ih.append_right _)
theorem rev_count (f : Fo) : f.rev.count = f.count := by
  rw [← stL_len, ← stL_len, (rev_perm f).length_eq]
theorem rev_app (f g : Fo) : (f.app g).rev = g.rev.app f.rev := by
  induction f with
  | nil => exact (g.rev.app_nil).symm
  | cons w ns b y n _ ih =>
    show (n.app g).rev.app (cons w ns b y nil) = g.rev.app (n.rev.app (cons w ns b y nil))
    rw [ih, app_assoc]
theorem wld_sub (f : Fo) : ∀ p ∈ f.wld.stL, p ∈ f.stL := by
  induction f with
  | nil => exact fun p hp => hp
  | cons w ns b y n _ ih =>
    intro p hp
    rw [wld] at hp
    rw [stL_cons]
    split at hp
    · rw [stL_cons] at hp
      simp only [List.mem_cons, List.mem_append] at hp ⊢
      rcases hp with hp | hp | hp
      · exact .inl hp
      · exact .inr (.inl hp)
      · exact .inr (.inr (ih p hp))
    · simp only [List.mem_cons, List.mem_append]
      exact .inr (.inr (ih p hp))
theorem wld_same (f : Fo) (h : ∀ p ∈ f.stL, p.1.world = true → p.2 = false) : f.wld.stL.filter (fun p => p.1.world) = f.stL.filter (fun p => p.1.world) := by
  induction f with
  | nil => rfl
  | cons w ns b y n _ ih =>
    rw [stL_cons] at h
    have h1 := ih fun p hp => h p (by simp [hp])
    rw [wld, stL_cons]
    have hy : (y.flatL.map (fun x => (x, true))).filter (fun p => p.1.world) = [] := by
      rw [List.filter_eq_nil_iff]
      intro p hp hw
      have := h p (by simp only [List.mem_cons, List.mem_append]; exact .inr (.inl hp)) hw
      obtain ⟨x, _, rfl⟩ := List.mem_map.1 hp
      cases this
    split
    · rename_i hw
      rw [stL_cons, List.filter_cons, List.filter_cons, if_pos hw, if_pos hw, List.filter_append, List.filter_append, h1]
    · rename_i hw
      rw [List.filter_cons, if_neg hw, List.filter_append, hy, h1]
      rfl
theorem wld_count (f : Fo) : f.wld.count ≤ f.count := by
  induction f with
  | nil => exact Nat.le_refl _
  | cons w ns b y n _ ih =>
    rw [wld]
    split
    · simp only [count]; omega
    · simp only [count]; omega
end Fo
theorem Fine17.rev {f : Fo} {ks : List (Ky × Nat)} (h : Fine17 f ks) (hc : chkE f.rev = 0) : ∃ k2, Fine17 f.rev k2 ∧ toldF f.rev.flatL = toldF f.flatL :=
  h.turn hc (f.rev_perm.filter _) fun _ hp => f.rev_perm.symm.subset hp
theorem Fine17.wld {f : Fo} {ks : List (Ky × Nat)} (h : Fine17 f ks) (hc : chkE f.wld = 0) : ∃ k2, Fine17 f.wld k2 ∧ toldF f.wld.flatL = toldF f.flatL :=
  h.turn hc (by rw [Fo.wld_same f fun p hp hw => ((h.each p hp).2 hw).1]) f.wld_sub
end Go.Proofs.YtpkoboohnbkpoaaGreatDoor
