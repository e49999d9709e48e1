/-
  What follows of the plain words of campaigns alone: what stands piece by piece and as a set, flat lists, when statements are a campaign, and that their order plays no part. No condition.
-/
import Derived.Test.YtpkoboohnbkpoaaGreatDoorJZA
import Derived.Test.YtpkoboohnbkpoaaGreatDoorK7
namespace Go.Proofs.YtpkoboohnbkpoaaGreatDoor
open Go

/-- Which one is wrong, and what: no number is no error. -/
def chkF (f : Fo) : Nat × Nat :=
  if chkE f ≠ 0 then (0, chkE f)
  else match standF (f.flatL.zip f.inL) 0 [] with
    | .bad at_ e => (at_, e)
    | .ok ks =>
      if firstFour.all (hasW ks) = false then (f.count, 8)
      else if (toldF f.flatL).okM = false then (posW ks wSlot, 1)
      else match f.flatL.findIdx? (St.beyond (toldF f.flatL).nodes) with
        | some i => (i, 1)
        | none => (0, 0)
/-- The world, or none. -/
def confF (f : Fo) : Cf := if (chkF f).2 = 0 then toldF f.topL else cfZ
/-! ### What stands, piece by piece -/
theorem stand_app : ∀ (a b : List (St × Bool)) (k : Nat) (ks : List (Ky × Nat)), standF (a ++ b) k ks = match standF a k ks with
    | .bad p e => .bad p e
    | .ok k2 => standF b (k + a.length) k2
  | [], b, k, ks => by simp [standF]
  | (x, i) :: a, b, k, ks => by
    have e : k + (((x, i) :: a).length) = k + 1 + a.length := by simp; omega
    rw [e, List.cons_append]
    simp only [standF]
    by_cases h1 : oneE x ≠ 0
    · rw [if_pos h1, if_pos h1]
    rw [if_neg h1, if_neg h1]
    by_cases h2 : x.world = false
    · rw [if_pos h2, if_pos h2]; exact stand_app a b _ _
    rw [if_neg h2, if_neg h2]
    cases i with
    | true => rfl
    | false =>
      simp only [Bool.false_eq_true, if_false]
      by_cases h3 : ks.any (fun p => p.1 == x.key) = true
      · rw [if_pos h3, if_pos h3]
      · rw [if_neg h3, if_neg h3]; exact stand_app a b _ _
/-- What stands well: each may be by itself, and is told of what it is. -/
theorem stand_ok : ∀ {a : List (St × Bool)} {k : Nat} {ks k2 : List (Ky × Nat)}, standF a k ks = .ok k2 →
    (∀ p ∈ a, oneE p.1 = 0 ∧ (p.1.world = true → p.2 = false ∧ k2.any (fun q => q.1 == p.1.key) = true)) ∧ (∀ q ∈ ks, q ∈ k2)
  | [], k, ks, k2, h => by
    simp only [standF, Sd.ok.injEq] at h
    subst h
    exact ⟨fun p hp => (by cases hp), fun q hq => hq⟩
  | (x, i) :: a, k, ks, k2, h => by
    simp only [standF] at h
    split at h
    · cases h
    rename_i h1
    have h1 : oneE x = 0 := by omega
    split at h
    · rename_i h2
      obtain ⟨h3, h4⟩ := stand_ok h
      refine ⟨fun p hp => ?_, h4⟩
      rcases List.mem_cons.1 hp with rfl | hp
      · exact ⟨h1, fun h5 => by rw [h2] at h5; cases h5⟩
      · exact h3 p hp
    · rename_i h2
      split at h
      · cases h
      rename_i hi
      split at h
      · cases h
      obtain ⟨h3, h4⟩ := stand_ok h
      refine ⟨fun p hp => ?_, fun q hq => h4 q (List.mem_append_left _ hq)⟩
      rcases List.mem_cons.1 hp with rfl | hp
      · exact ⟨h1, fun _ => ⟨by simpa using hi, List.any_eq_true.2 ⟨(x.key, k), h4 _ (by simp), by simp⟩⟩⟩
      · exact h3 p hp
/-- What tells of no world adds nothing. -/
theorem stand_more : ∀ {a : List (St × Bool)} (k : Nat) (ks : List (Ky × Nat)), (∀ p ∈ a, oneE p.1 = 0 ∧ p.1.world = false) → standF a k ks = .ok ks
  | [], k, ks, _ => rfl
  | (x, i) :: a, k, ks, h => by
    have h1 := h (x, i) (by simp)
    simp only [standF]
    rw [if_neg (by rw [h1.1]; simp), if_pos h1.2]
    exact stand_more _ _ fun p hp => h p (by simp [hp])
theorem one_014 (x : St) : oneE x = 0 ∨ oneE x = 1 ∨ oneE x = 4 := by
  unfold oneE
  split
  · simp
  · split
    · simp
    · split <;> simp
theorem stand_bad : ∀ {a : List (St × Bool)} {k : Nat} {ks : List (Ky × Nat)} {p e : Nat}, standF a k ks = .bad p e → e ≠ 0 ∧ e ≤ 8 ∧ k ≤ p ∧ p < k + a.length
  | [], k, ks, p, e, h => by cases h
  | (x, i) :: a, k, ks, p, e, h => by
    simp only [standF] at h
    split at h
    · rename_i h1
      cases h
      have := one_014 x
      exact ⟨h1, by omega, Nat.le_refl _, by simp⟩
    split at h
    · have := stand_bad h; simp; omega
    split at h
    · cases h; simp
    split at h
    · cases h; simp
    · have := stand_bad h; simp; omega

/-! ### Forests and their flat lists -/
theorem flat_member {f : Fo} {x : St} : x ∈ f.topL → x ∈ f.flatL := by
  induction f with
  | nil => exact fun h => h
  | cons w ns b y n _ ih =>
    intro h
    rcases List.mem_cons.1 h with rfl | h
    · simp [Fo.flatL]
    · simp only [Fo.flatL, List.mem_cons, List.mem_append]; exact .inr (.inr (ih h))
/-- what stands in a forest, with the flag -/
def Fo.stL (f : Fo) : List (St × Bool) := f.flatL.zip f.inL
theorem Fo.stL_cons (w : List UInt8) (ns : List (Int × Bool)) (b : Bool) (y n : Fo) : (Fo.cons w ns b y n).stL = (⟨w, ns, b⟩, false) :: (y.flatL.map (fun x => (x, true)) ++ n.stL) := by
  unfold Fo.stL
  rw [Fo.flatL, Fo.inL, List.zip_cons_cons, List.zip_append (by rw [Fo.flatL_len, List.length_replicate])]
  congr 2
  rw [← Fo.flatL_len]
  generalize y.flatL = l
  induction l with
  | nil => rfl
  | cons x l ih => simp only [List.length_cons, List.replicate_succ, List.zip_cons_cons, List.map_cons, ih]
theorem Fo.stL_app (f g : Fo) : (f.app g).stL = f.stL ++ g.stL := by
  unfold Fo.stL
  rw [Fo.flatL_app, Fo.inL_app, List.zip_append (by rw [Fo.flatL_len, Fo.inL_len])]
theorem Fo.stL_len (f : Fo) : f.stL.length = f.count := by
  unfold Fo.stL; rw [List.length_zip, Fo.flatL_len, Fo.inL_len, Nat.min_self]
theorem Fo.stL_fst (f : Fo) : f.stL.map (·.1) = f.flatL := by
  unfold Fo.stL; rw [List.map_fst_zip (by rw [Fo.flatL_len, Fo.inL_len]; exact Nat.le_refl _)]
theorem tell_other {c : Cf} {x : St} (h : x.world = false) : tellS c x = c := by
  unfold tellS
  have hw : ∀ v : List UInt8, (formF v).map (·.world) = some true → x.w ≠ v := fun v hv e => by
    unfold St.world at h
    rw [e] at h
    cases hf : formF v with
    | none => rw [hf] at hv; cases hv
    | some f => rw [hf] at hv h; simp only [Option.map_some, Option.some.injEq] at hv; simp only at h; rw [hv] at h; cases h
  rw [if_neg (hw _ (by decide)), if_neg (hw _ (by decide)), if_neg (hw _ (by decide)), if_neg (hw _ (by decide)), if_neg (hw _ (by decide)), if_neg (hw _ (by decide)), if_neg (hw _ (by decide)), if_neg (hw _ (by decide))]
theorem foldl_other : ∀ {l : List St} {c : Cf}, (∀ x ∈ l, x.world = false) → l.foldl tellS c = c
  | [], c, _ => rfl
  | x :: l, c, h => by rw [List.foldl_cons, tell_other (h x (by simp))]; exact foldl_other fun z hz => h z (by simp [hz])
/-- Where what is in blocks tells of no world, the uppermost ones tell of it as all do. -/
theorem fold_top : ∀ {f : Fo} {c : Cf}, (∀ p ∈ f.stL, p.1.world = true → p.2 = false) → f.topL.foldl tellS c = f.flatL.foldl tellS c := by
  intro f
  induction f with
  | nil => intro c _; rfl
  | cons w ns b y n _ ih =>
    intro c h
    rw [Fo.stL_cons] at h
    simp only [Fo.topL, Fo.flatL, List.foldl_cons, List.foldl_append]
    rw [foldl_other (l := y.flatL) fun x hx => by
      have := h (x, true) (by simp [hx])
      cases hq : x.world with
      | false => rfl
      | true => exact absurd (this hq) (by simp)]
    exact ih fun p hp => h p (by simp [hp])

/-! ### What a campaign is -/
structure Fine17 (f : Fo) (ks : List (Ky × Nat)) : Prop where
  chk : chkE f = 0
  st : standF f.stL 0 [] = .ok ks
  four : firstFour.all (hasW ks) = true
  ok : (toldF f.flatL).okM = true
  near : f.flatL.findIdx? (St.beyond (toldF f.flatL).nodes) = none
theorem chkF_fine {f : Fo} (h : (chkF f).2 = 0) : ∃ ks, Fine17 f ks := by
  unfold chkF at h
  split at h
  · rename_i h1; exact absurd h h1
  rename_i h1
  have h1 : chkE f = 0 := by omega
  split at h
  · rename_i p e hs
    exact absurd h (stand_bad hs).1
  · rename_i ks hs
    split at h
    · cases h
    split at h
    · cases h
    split at h
    · cases h
    rename_i h2 h3 _ h4
    exact ⟨ks, h1, hs, by simpa using h2, by simpa using h3, h4⟩
theorem fine_chkF {f : Fo} {ks : List (Ky × Nat)} (h : Fine17 f ks) : chkF f = (0, 0) := by
  have hs := h.st
  unfold Fo.stL at hs
  unfold chkF
  rw [if_neg (by rw [h.chk]; simp), hs]
  simp only [h.four, h.ok, h.near, Bool.true_eq_false, if_false]
theorem Fine17.told {f : Fo} {ks : List (Ky × Nat)} (h : Fine17 f ks) : toldF f.topL = toldF f.flatL := by
  unfold toldF
  rw [fold_top fun p hp hw => (((stand_ok h.st).1 p hp).2 hw).1]
theorem confF_fine {f : Fo} {ks : List (Ky × Nat)} (h : Fine17 f ks) : confF f = toldF f.flatL := by
  unfold confF; rw [fine_chkF h, if_pos rfl, h.told]
/-! ### What stands, as a set -/
def wk (l : List (St × Bool)) : List Ky := (l.filter (fun p => p.1.world)).map (fun p => p.1.key)
theorem wk_cons (p : St × Bool) (l : List (St × Bool)) : wk (p :: l) = if p.1.world = true then p.1.key :: wk l else wk l := by
  unfold wk
  rw [List.filter_cons]
  split <;> rfl
theorem stand_keys : ∀ {a : List (St × Bool)} {k : Nat} {ks k2 : List (Ky × Nat)}, standF a k ks = .ok k2 → (ks.map (·.1)).Nodup → k2.map (·.1) = ks.map (·.1) ++ wk a ∧ (k2.map (·.1)).Nodup
  | [], k, ks, k2, h, hn => by
    simp only [standF, Sd.ok.injEq] at h
    subst h
    exact ⟨by simp [wk], hn⟩
  | (x, i) :: a, k, ks, k2, h, hn => by
    simp only [standF] at h
    split at h
    · cases h
    split at h
    · rename_i h2
      obtain ⟨h3, h4⟩ := stand_keys h hn
      refine ⟨?_, h4⟩
      rw [h3, wk_cons, if_neg (by simp [h2])]
    · rename_i h2
      split at h
      · cases h
      split at h
      · cases h
      rename_i h5
      have hnm : x.key ∉ ks.map (·.1) := fun hm => h5 (by
        obtain ⟨q, hq, he⟩ := List.mem_map.1 hm
        exact List.any_eq_true.2 ⟨q, hq, by simp [he]⟩)
      have hn2 : ((ks ++ [(x.key, k)]).map (·.1)).Nodup := by
        rw [List.map_append, List.nodup_append]
        refine ⟨hn, by simp, fun u hu v hv => ?_⟩
        simp only [List.map_cons, List.map_nil, List.mem_singleton] at hv
        subst hv
        exact fun e => hnm (e ▸ hu)
      obtain ⟨h3, h4⟩ := stand_keys h hn2
      refine ⟨?_, h4⟩
      rw [h3, wk_cons, if_pos (by simpa using h2)]
      simp
theorem stand_of : ∀ {a : List (St × Bool)} (k : Nat) {ks : List (Ky × Nat)}, (∀ p ∈ a, oneE p.1 = 0 ∧ (p.1.world = true → p.2 = false)) → (ks.map (·.1) ++ wk a).Nodup → ∃ k2, standF a k ks = .ok k2
  | [], k, ks, _, _ => ⟨ks, rfl⟩
  | (x, i) :: a, k, ks, h, hn => by
    have h1 := h (x, i) (by simp)
    simp only [standF]
    rw [if_neg (by rw [h1.1]; simp)]
    by_cases h2 : x.world = false
    · rw [if_pos h2]
      rw [wk_cons, if_neg (by simp [h2])] at hn
      exact stand_of _ (fun p hp => h p (by simp [hp])) hn
    · rw [if_neg h2]
      have h2 : x.world = true := by simpa using h2
      obtain rfl : i = false := h1.2 h2
      rw [wk_cons, if_pos h2] at hn
      have hnm : ¬ ks.any (fun p => p.1 == x.key) = true := fun hm => by
        obtain ⟨q, hq, he⟩ := List.any_eq_true.1 hm
        have he : q.1 = x.key := by simpa using he
        have := (List.nodup_append.1 hn).2.2 q.1 (List.mem_map.2 ⟨q, hq, rfl⟩) x.key (by simp)
        exact this he
      simp only [Bool.false_eq_true, if_false]
      rw [if_neg hnm]
      exact stand_of _ (fun p hp => h p (by simp [hp])) (by simpa using hn)
theorem hasW_iff (ks : List (Ky × Nat)) (w : List UInt8) : hasW ks w = true ↔ (⟨w, 0, 0⟩ : Ky) ∈ ks.map (·.1) := by
  unfold hasW
  rw [List.any_eq_true, List.mem_map]
  constructor
  · rintro ⟨q, hq, he⟩; exact ⟨q, hq, by simpa using he⟩
  · rintro ⟨q, hq, he⟩; exact ⟨q, hq, by simpa using he⟩

/-! ### The order plays no part -/
theorem word_world {x : St} (h : x.world = true) : x.w = wNodes ∨ x.w = wTick ∨ x.w = wSlot ∨ x.w = wHorizon ∨ x.w = wDrift ∨ x.w = wDelay ∨ x.w = wPower ∨ x.w = wGuard := by
  obtain ⟨w, ns, b⟩ := x
  unfold St.world formF at h
  simp only at h ⊢
  cases hf : tab.find? (fun p => p.1 == w) with
  | none => rw [hf] at h; cases h
  | some p =>
    rw [hf] at h
    have h1 := List.mem_of_find?_eq_some hf
    have h2 : p.1 = w := by have := List.find?_some hf; simpa using this
    have h3 : p.2.world = true := h
    have key : ∀ p ∈ tab, p.2.world = true → p.1 = wNodes ∨ p.1 = wTick ∨ p.1 = wSlot ∨ p.1 = wHorizon ∨ p.1 = wDrift ∨ p.1 = wDelay ∨ p.1 = wPower ∨ p.1 = wGuard := by decide
    rw [← h2]
    exact key p h1 h3
theorem fits_len : ∀ {xs : List Nr} {ns : List (Int × Bool)}, fitsL xs ns = true → ns.length = xs.length
  | [], [], _ => rfl
  | x :: xs, n :: ns, h => by
    simp only [fitsL, Bool.and_eq_true] at h
    simp [fits_len h.2]
  | [], _ :: _, h => by cases h
  | _ :: _, [], h => by cases h
theorem one_parts {x : St} (h : oneE x = 0) : ∃ f, formF x.w = some f ∧ x.b = f.block ∧ fitsL f.nums x.ns = true ∧ mayL f.nums x.ns = true ∧ twoB (f.named x.ns) = true := by
  unfold oneE at h
  split at h
  · cases h
  · rename_i f hf
    split at h
    · cases h
    rename_i h1
    split at h
    · rename_i h2
      unfold Fm.holds at h2
      simp only [Bool.or_eq_true, bne_iff_ne, ne_eq, Bool.not_eq_true', not_or, Decidable.not_not, Bool.not_eq_false] at h1
      simp only [Bool.and_eq_true] at h2
      exact ⟨f, hf, h1.1, h1.2, h2.1, h2.2⟩
    · cases h
theorem one_form {w : List UInt8} {ns : List (Int × Bool)} {b : Bool} {f : Fm} (h : oneE ⟨w, ns, b⟩ = 0) (hf : formF w = some f) : b = f.block ∧ fitsL f.nums ns = true ∧ mayL f.nums ns = true ∧ twoB (f.named ns) = true := by
  obtain ⟨g, h1, h2⟩ := one_parts h
  simp only at h1
  rw [hf] at h1
  cases h1
  exact h2
theorem may_iff (x : Nr) (n : Int) : x.may n = true ↔ x.lo ≤ n ∧ n ≤ x.hi := by unfold Nr.may; simp
theorem four_nodes : formF wNodes = some ⟨[⟨false, 2, 16⟩], 0, true, false⟩ := by decide
theorem four_tick : formF wTick = some ⟨[nPeriod], 0, true, false⟩ := by decide
theorem four_slot : formF wSlot = some ⟨[nTicks, nTicks, nTicks, nTicks], 0, true, false⟩ := by decide
theorem four_horizon : formF wHorizon = some ⟨[nWhen], 0, true, false⟩ := by decide
theorem four_drift : formF wDrift = some ⟨[nNode, nDrift], 1, true, false⟩ := by decide
theorem four_delay : formF wDelay = some ⟨[nNode, nNode, ⟨true, 0, 1099511627776⟩], 2, true, false⟩ := by decide
theorem four_power : formF wPower = some ⟨[nNode, nWhen], 1, true, false⟩ := by decide
theorem four_guard : formF wGuard = some ⟨[⟨false, 0, 1⟩], 0, true, false⟩ := by decide
theorem one1 {w : List UInt8} {ns : List (Int × Bool)} {b : Bool} {x : Nr} {k : Nat} {q r : Bool} (h : oneE ⟨w, ns, b⟩ = 0) (hf : formF w = some ⟨[x], k, q, r⟩) : ∃ a, ns = [(a, x.time)] ∧ x.lo ≤ a ∧ a ≤ x.hi ∧ b = r := by
  obtain ⟨h1, h2, h3, _⟩ := one_form h hf
  have hl := fits_len h2
  match ns, hl, h2, h3 with
  | [(a, t)], _, h2, h3 =>
    simp only [fitsL, Bool.and_eq_true, beq_iff_eq, mayL, may_iff, and_true] at h2 h3
    subst h2
    exact ⟨a, rfl, h3.1, h3.2, h1⟩
theorem one2 {w : List UInt8} {ns : List (Int × Bool)} {b : Bool} {x y : Nr} {k : Nat} {q r : Bool} (h : oneE ⟨w, ns, b⟩ = 0) (hf : formF w = some ⟨[x, y], k, q, r⟩) : ∃ a v, ns = [(a, x.time), (v, y.time)] ∧ x.lo ≤ a ∧ a ≤ x.hi ∧ y.lo ≤ v ∧ v ≤ y.hi ∧ b = r := by
  obtain ⟨h1, h2, h3, _⟩ := one_form h hf
  have hl := fits_len h2
  match ns, hl, h2, h3 with
  | [(a, t), (v, u)], _, h2, h3 =>
    simp only [fitsL, Bool.and_eq_true, beq_iff_eq, mayL, may_iff, and_true] at h2 h3
    obtain ⟨rfl, rfl⟩ := h2
    exact ⟨a, v, rfl, h3.1.1, h3.1.2, h3.2.1, h3.2.2, h1⟩
theorem one3 {w : List UInt8} {ns : List (Int × Bool)} {b : Bool} {x y z : Nr} {k : Nat} {q r : Bool} (h : oneE ⟨w, ns, b⟩ = 0) (hf : formF w = some ⟨[x, y, z], k, q, r⟩) : ∃ a v c, ns = [(a, x.time), (v, y.time), (c, z.time)] ∧ (x.lo ≤ a ∧ a ≤ x.hi) ∧ (y.lo ≤ v ∧ v ≤ y.hi) ∧ (z.lo ≤ c ∧ c ≤ z.hi) ∧ b = r ∧ twoB ((ns.take k)) = true := by
  obtain ⟨h1, h2, h3, h4⟩ := one_form h hf
  have hl := fits_len h2
  match ns, hl, h2, h3, h4 with
  | [(a, t), (v, u), (c, s)], _, h2, h3, h4 =>
    simp only [fitsL, Bool.and_eq_true, beq_iff_eq, mayL, may_iff, and_true] at h2 h3
    obtain ⟨rfl, rfl, rfl⟩ := h2
    exact ⟨a, v, c, rfl, h3.1, h3.2.1, h3.2.2, h1, h4⟩
theorem one4 {w : List UInt8} {ns : List (Int × Bool)} {b : Bool} {x y z u : Nr} {k : Nat} {q r : Bool} (h : oneE ⟨w, ns, b⟩ = 0) (hf : formF w = some ⟨[x, y, z, u], k, q, r⟩) : ∃ a v c d, ns = [(a, x.time), (v, y.time), (c, z.time), (d, u.time)] ∧ (x.lo ≤ a ∧ a ≤ x.hi) ∧ (y.lo ≤ v ∧ v ≤ y.hi) ∧ (z.lo ≤ c ∧ c ≤ z.hi) ∧ (u.lo ≤ d ∧ d ≤ u.hi) ∧ b = r := by
  obtain ⟨h1, h2, h3, _⟩ := one_form h hf
  have hl := fits_len h2
  match ns, hl, h2, h3 with
  | [(a, t), (v, t2), (c, t3), (d, t4)], _, h2, h3 =>
    simp only [fitsL, Bool.and_eq_true, beq_iff_eq, mayL, may_iff, and_true] at h2 h3
    obtain ⟨rfl, rfl, rfl, rfl⟩ := h2
    exact ⟨a, v, c, d, rfl, h3.1, h3.2.1, h3.2.2.1, h3.2.2.2, h1⟩
theorem key_of {x : St} {f : Fm} (hf : formF x.w = some f) : x.key = ⟨x.w, keyN (x.ns.take f.nodes) 0, keyN (x.ns.take f.nodes) 1⟩ := by
  unfold St.key St.named Fm.named
  rw [hf]
theorem modify_two {l : List (List Int)} {i j : Nat} (g h : List Int → List Int) (hij : i = j → ∀ r, g (h r) = h (g r)) : (l.modify i g).modify j h = (l.modify j h).modify i g := by
  by_cases e : i = j
  · subst e
    apply List.ext_getElem?
    intro k
    rw [List.getElem?_modify, List.getElem?_modify, List.getElem?_modify, List.getElem?_modify]
    cases l[k]? with
    | none => rfl
    | some r =>
      refine congrArg some ?_
      simp only
      by_cases e2 : i = k
      · rw [if_pos e2, if_pos e2, if_pos e2, if_pos e2]
        exact (hij rfl r).symm
      · rw [if_neg e2, if_neg e2, if_neg e2, if_neg e2]
  · apply List.ext_getElem?
    intro k
    simp only [List.getElem?_modify]
    by_cases e2 : i = k
    · subst e2
      have : ¬ j = i := fun h => e h.symm
      simp [this]
    · by_cases e3 : j = k
      · subst e3; simp [e2]
      · simp [e2, e3]
set_option maxHeartbeats 1000000 in
theorem tell_two {x y : St} (hx : oneE x = 0) (hy : oneE y = 0) (hxw : x.world = true) (hyw : y.world = true) (hk : x.key ≠ y.key) (c : Cf) : tellS (tellS c x) y = tellS (tellS c y) x := by
  obtain ⟨w, ns, b⟩ := x
  obtain ⟨v, ms, d⟩ := y
  have h1 := word_world hxw
  have h2 := word_world hyw
  simp only at h1 h2
  rcases h1 with rfl | rfl | rfl | rfl | rfl | rfl | rfl | rfl <;> rcases h2 with rfl | rfl | rfl | rfl | rfl | rfl | rfl | rfl
  case inl.inl => exact absurd (by rw [key_of four_nodes, key_of four_nodes]; rfl) hk
  case inr.inl.inr.inl => exact absurd (by rw [key_of four_tick, key_of four_tick]; rfl) hk
  case inr.inr.inl.inr.inr.inl => exact absurd (by rw [key_of four_slot, key_of four_slot]; rfl) hk
  case inr.inr.inr.inl.inr.inr.inr.inl => exact absurd (by rw [key_of four_horizon, key_of four_horizon]; rfl) hk
  case inr.inr.inr.inr.inr.inr.inr.inr.inr.inr.inr.inr.inr.inr => exact absurd (by rw [key_of four_guard, key_of four_guard]; rfl) hk
  case inr.inr.inr.inr.inl.inr.inr.inr.inr.inl =>
    obtain ⟨a, n, rfl, a1, a2, _⟩ := one2 hx four_drift
    obtain ⟨e, m, rfl, e1, e2, _⟩ := one2 hy four_drift
    rw [key_of four_drift, key_of four_drift] at hk
    have hae : a ≠ e := fun h => hk (by rw [h]; rfl)
    simp only [nNode] at a1 e1
    show ({ c with drift := (c.drift.set a.toNat n).set e.toNat m } : Cf) = { c with drift := (c.drift.set e.toNat m).set a.toNat n }
    rw [List.set_comm _ _ (by omega)]
  case inr.inr.inr.inr.inr.inr.inl.inr.inr.inr.inr.inr.inr.inl =>
    obtain ⟨a, n, rfl, a1, a2, _⟩ := one2 hx four_power
    obtain ⟨e, m, rfl, e1, e2, _⟩ := one2 hy four_power
    rw [key_of four_power, key_of four_power] at hk
    have hae : a ≠ e := fun h => hk (by rw [h]; rfl)
    simp only [nNode] at a1 e1
    show ({ c with power := (c.power.set a.toNat n).set e.toNat m } : Cf) = { c with power := (c.power.set e.toNat m).set a.toNat n }
    rw [List.set_comm _ _ (by omega)]
  case inr.inr.inr.inr.inr.inl.inr.inr.inr.inr.inr.inl =>
    obtain ⟨a, n, p, rfl, a1, a2, _⟩ := one3 hx four_delay
    obtain ⟨e, m, q, rfl, e1, e2, _⟩ := one3 hy four_delay
    rw [key_of four_delay, key_of four_delay] at hk
    have hae : ¬ (a = e ∧ n = m) := fun h => hk (by rw [h.1, h.2]; rfl)
    simp only [nNode] at a1 a2 e1 e2
    show ({ c with delay := (c.delay.modify a.toNat (fun r => r.set n.toNat p)).modify e.toNat (fun r => r.set m.toNat q) } : Cf) = { c with delay := (c.delay.modify e.toNat (fun r => r.set m.toNat q)).modify a.toNat (fun r => r.set n.toNat p) }
    rw [modify_two _ _ fun h r => List.set_comm _ _ (by omega)]
  all_goals rfl
theorem fold_world : ∀ {l : List St} {c : Cf}, (l.filter St.world).foldl tellS c = l.foldl tellS c
  | [], _ => rfl
  | x :: l, c => by
    rw [List.filter_cons]
    split
    · rw [List.foldl_cons, List.foldl_cons]; exact fold_world
    · rename_i h
      rw [List.foldl_cons, tell_other (by simpa using h)]; exact fold_world
theorem fold_perm {l m : List St} (h1 : ∀ x ∈ l, oneE x = 0) (hk : ((l.filter St.world).map St.key).Nodup) (hp : (l.filter St.world).Perm (m.filter St.world)) (c : Cf) : l.foldl tellS c = m.foldl tellS c := by
  rw [← fold_world (l := l), ← fold_world (l := m)]
  refine hp.foldl_eq' (fun x hx y hy z => ?_) c
  by_cases e : x = y
  · rw [e]
  have hxy : x.key ≠ y.key := fun h => by
    have : ∀ {l : List St}, (l.map St.key).Nodup → ∀ x ∈ l, ∀ y ∈ l, x.key = y.key → x = y := by
      intro l
      induction l with
      | nil => intro _ x hx; cases hx
      | cons a l ih =>
        intro hn x hx y hy he
        rw [List.map_cons, List.nodup_cons] at hn
        rcases List.mem_cons.1 hx with hx | hx <;> rcases List.mem_cons.1 hy with hy | hy
        · rw [hx, hy]
        · exact absurd (List.mem_map.2 ⟨y, hy, by rw [← he, hx]⟩) hn.1
        · exact absurd (List.mem_map.2 ⟨x, hx, by rw [he, hy]⟩) hn.1
        · exact ih hn.2 x hx y hy he
    exact e (this hk x hx y hy h)
  rw [List.mem_filter] at hx hy
  exact tell_two (h1 x hx.1) (h1 y hy.1) hx.2 hy.2 hxy z
end Go.Proofs.YtpkoboohnbkpoaaGreatDoor
