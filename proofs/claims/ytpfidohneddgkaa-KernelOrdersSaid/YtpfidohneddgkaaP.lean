/-
  Plain facts on things in order: the order itself, sorted lists, heaps in lists, a thing that rises or sinks. No program, no condition.
-/
namespace Go.Proofs.Ytpfidohneddgkaa

/-- A thing: At, Class, Seq, What, Who, N. -/
abbrev It : Type := Int × Int × Int × Int × Int × Int

def lex (a b : Int) (r : Bool) : Bool := if a = b then r else decide (a < b)
/-- Comes one thing ahead of another? -/
def lt (x y : It) : Bool :=
  lex x.1 y.1 (lex x.2.1 y.2.1 (lex x.2.2.1 y.2.2.1 (lex x.2.2.2.1 y.2.2.2.1 (lex x.2.2.2.2.1 y.2.2.2.2.1 (decide (x.2.2.2.2.2 < y.2.2.2.2.2))))))

theorem lex_irr {a : Int} {r : Bool} (h : r = false) : lex a a r = false := by simp [lex, h]
theorem lex_trans {a b c : Int} {r s t : Bool} (h1 : lex a b r = true) (h2 : lex b c s = true) (h : r = true → s = true → t = true) : lex a c t = true := by
  unfold lex at *
  split at h1 <;> split at h2 <;> split
  · exact h h1 h2
  · omega
  · omega
  · simp at h2 ⊢; omega
  · omega
  · simp at h1 ⊢; omega
  · simp at h1 h2; omega
  · simp at h1 h2 ⊢; omega
theorem lex_tri {a b : Int} {r s : Bool} (h1 : lex a b r = false) (h2 : lex b a s = false) : a = b ∧ r = false ∧ s = false := by
  unfold lex at *
  split at h1
  · next e => rw [if_pos e.symm] at h2; exact ⟨e, h1, h2⟩
  · next e => rw [if_neg (fun h => e h.symm)] at h2; simp at h1 h2; omega

theorem lt_irr (x : It) : lt x x = false := lex_irr (lex_irr (lex_irr (lex_irr (lex_irr (by simp)))))
theorem lt_trans {x y z : It} (h1 : lt x y = true) (h2 : lt y z = true) : lt x z = true :=
  lex_trans h1 h2 fun h1 h2 => lex_trans h1 h2 fun h1 h2 => lex_trans h1 h2 fun h1 h2 => lex_trans h1 h2 fun h1 h2 => lex_trans h1 h2 fun h1 h2 => by simp at h1 h2 ⊢; omega
theorem lt_tri {x y : It} (h1 : lt x y = false) (h2 : lt y x = false) : x = y := by
  obtain ⟨a1, a2, a3, a4, a5, a6⟩ := x
  obtain ⟨b1, b2, b3, b4, b5, b6⟩ := y
  obtain ⟨e1, h1, h2⟩ := lex_tri h1 h2
  obtain ⟨e2, h1, h2⟩ := lex_tri h1 h2
  obtain ⟨e3, h1, h2⟩ := lex_tri h1 h2
  obtain ⟨e4, h1, h2⟩ := lex_tri h1 h2
  obtain ⟨e5, h1, h2⟩ := lex_tri h1 h2
  simp at e1 e2 e3 e4 e5 h1 h2
  subst e1; subst e2; subst e3; subst e4; subst e5
  obtain rfl : a6 = b6 := by omega
  rfl
theorem lt_asym {x y : It} (h : lt x y = true) : lt y x = false := by
  cases e : lt y x
  · rfl
  · have := lt_trans h e; rw [lt_irr] at this; cases this
/-- y is not ahead of x, z not of y: z is not of x. -/
theorem le_trans {x y z : It} (h1 : lt y x = false) (h2 : lt z y = false) : lt z x = false := by
  cases e : lt z x
  · rfl
  · cases f : lt y z
    · have := lt_tri f h2; subst this; rw [h1] at e; cases e
    · rw [lt_trans f e] at h1; cases h1
theorem lt_le {x y z : It} (h1 : lt x y = true) (h2 : lt z y = false) : lt x z = true := by
  cases e : lt x z
  · cases f : lt z x
    · have := lt_tri e f; subst this; rw [h2] at h1; cases h1
    · have := lt_trans f h1; rw [h2] at this; cases this
  · rfl

/-! ### Sorted lists -/
def put : List It → It → List It
  | [], x => [x]
  | y :: l, x => if lt x y then x :: y :: l else y :: put l x
def srt (l : List It) : List It := l.foldl put []
def Srt (l : List It) : Prop := l.Pairwise fun a b => lt b a = false

theorem put_perm (l : List It) (x : It) : (put l x).Perm (x :: l) := by
  induction l with
  | nil => exact List.Perm.refl _
  | cons y l ih =>
    unfold put
    split
    · exact List.Perm.refl _
    · exact (ih.cons y).trans (List.Perm.swap x y l)
theorem put_srt {l : List It} (h : Srt l) (x : It) : Srt (put l x) := by
  induction l with
  | nil => simp [put, Srt]
  | cons y l ih =>
    unfold Srt at h
    rw [List.pairwise_cons] at h
    unfold put
    split
    · next e =>
      unfold Srt
      rw [List.pairwise_cons, List.pairwise_cons]
      refine ⟨fun z hz => ?_, h⟩
      rcases List.mem_cons.1 hz with rfl | hz
      · exact lt_asym e
      · exact le_trans (lt_asym e) (h.1 z hz)
    · next e =>
      unfold Srt
      rw [List.pairwise_cons]
      refine ⟨fun z hz => ?_, ih h.2⟩
      rcases List.mem_cons.1 ((put_perm l x).mem_iff.1 hz) with rfl | hz
      · simpa using e
      · exact h.1 z hz
theorem fold_perm (l a : List It) : (l.foldl put a).Perm (a ++ l) := by
  induction l generalizing a with
  | nil => simp
  | cons x l ih =>
    refine (ih (put a x)).trans ?_
    refine ((put_perm a x).append_right l).trans ?_
    exact (List.perm_middle (l₁ := a) (a := x) (l₂ := l)).symm
theorem fold_srt (l a : List It) (h : Srt a) : Srt (l.foldl put a) := by
  induction l generalizing a with
  | nil => exact h
  | cons x l ih => exact ih _ (put_srt h x)
theorem srt_perm (l : List It) : (srt l).Perm l := by simpa [srt] using fold_perm l []
theorem srt_srt (l : List It) : Srt (srt l) := fold_srt l [] List.Pairwise.nil
theorem srt_len (l : List It) : (srt l).length = l.length := (srt_perm l).length_eq
/-- Sorted lists of the same things are the same. -/
theorem srt_uniq : ∀ {a b : List It}, Srt a → Srt b → a.Perm b → a = b
  | [], b, _, _, h => (List.nil_perm.1 h).symm
  | x :: a, [], _, _, h => by have := h.length_eq; simp at this
  | x :: a, y :: b, ha, hb, h => by
    unfold Srt at ha hb
    rw [List.pairwise_cons] at ha hb
    have e : x = y := by
      rcases List.mem_cons.1 (h.mem_iff.1 (List.mem_cons_self (a := x) (l := a))) with e | hx
      · exact e
      · rcases List.mem_cons.1 (h.mem_iff.2 (List.mem_cons_self (a := y) (l := b))) with e | hy
        · exact e.symm
        · exact lt_tri (hb.1 x hx |> fun q => by exact q) (ha.1 y hy) |> fun q => by exact q
    subst e
    rw [srt_uniq ha.2 hb.2 h.cons_inv]
theorem srt_of_perm {a b : List It} (h : a.Perm b) : srt a = srt b := srt_uniq (srt_srt a) (srt_srt b) (((srt_perm a).trans h).trans (srt_perm b).symm)
theorem perm_of_srt {a b : List It} (h : srt a = srt b) : a.Perm b := (srt_perm a).symm.trans (h ▸ srt_perm b)
theorem srt_same {a : List It} (h : Srt a) : srt a = a := srt_uniq (srt_srt a) h (srt_perm a)
theorem put_srt_eq (a : List It) (x : It) : put (srt a) x = srt (x :: a) :=
  srt_uniq (put_srt (srt_srt a) x) (srt_srt _) (((put_perm _ x).trans ((srt_perm a).cons x)).trans (srt_perm _).symm)

/-! ### Lists by places -/
def nth (l : List It) (i : Nat) : It := l.getD i default
theorem nth_get {l : List It} {i : Nat} (h : i < l.length) : l[i]? = some (nth l i) := by simp [nth, List.getD, List.getElem?_eq_getElem h]
theorem nth_of {l : List It} {i : Nat} {x : It} (h : l[i]? = some x) : nth l i = x := by simp [nth, List.getD, h]
theorem nth_mem {l : List It} {i : Nat} (h : i < l.length) : nth l i ∈ l := List.mem_of_getElem? (nth_get h)
theorem mem_nth {l : List It} {x : It} (h : x ∈ l) : ∃ i, i < l.length ∧ nth l i = x := by
  obtain ⟨i, hi, e⟩ := List.mem_iff_getElem.1 h
  exact ⟨i, hi, nth_of (by rw [List.getElem?_eq_getElem hi, e])⟩
theorem nth_set {l : List It} {i j : Nat} {x : It} (h : i < l.length) : nth (l.set i x) j = if j = i then x else nth l j := by
  unfold nth List.getD
  rw [List.getElem?_set]
  by_cases e : j = i
  · subst e; simp [h]
  · rw [if_neg (fun q => e q.symm), if_neg e]
def sw (l : List It) (i j : Nat) : List It := (l.set i (nth l j)).set j (nth l i)
theorem sw_len (l : List It) (i j : Nat) : (sw l i j).length = l.length := by simp [sw]
theorem nth_sw {l : List It} {i j k : Nat} (hi : i < l.length) (hj : j < l.length) : nth (sw l i j) k = if k = j then nth l i else if k = i then nth l j else nth l k := by
  unfold sw
  rw [nth_set (by simpa using hj), nth_set hi]
theorem set_perm : ∀ {l : List It} {i : Nat} {x y : It}, l[i]? = some y → (y :: l.set i x).Perm (x :: l)
  | [], _, _, _, h => by simp at h
  | z :: l, 0, x, y, h => by
    simp at h; subst h
    rw [List.set_cons_zero]; exact List.Perm.swap _ _ _
  | z :: l, i + 1, x, y, h => by
    rw [List.set_cons_succ]
    have := set_perm (l := l) (i := i) (x := x) (y := y) (by simpa using h)
    exact ((List.Perm.swap z y _).trans (this.cons z)).trans (List.Perm.swap x z l)
theorem sw_perm {l : List It} {i j : Nat} (hi : i < l.length) (hj : j < l.length) : (sw l i j).Perm l := by
  by_cases e : i = j
  · subst e
    have : sw l i i = l := by
      unfold sw
      rw [List.set_set]
      refine List.ext_getElem? fun k => ?_
      rw [List.getElem?_set]
      split
      · next q => subst q; simp [hi, nth]
      · rfl
    rw [this]
  · have h1 : (nth l i :: l.set i (nth l j)).Perm (nth l j :: l) := set_perm (nth_get hi)
    have h2 : (nth l j :: sw l i j).Perm (nth l i :: l.set i (nth l j)) := by
      refine set_perm ?_
      rw [nth_get (by simpa using hj), nth_set hi, if_neg (fun q => e q.symm)]
    exact (h2.trans h1).cons_inv

/-! ### Heaps -/
def par (i : Nat) : Nat := (i - 1) / 2
def Ok (l : List It) (i : Nat) : Prop := lt (nth l i) (nth l (par i)) = false
/-- A heap from the place lo on. -/
def HpF (lo : Nat) (l : List It) : Prop := ∀ i, 1 ≤ i → i < l.length → lo ≤ par i → Ok l i
def Hp (l : List It) : Prop := ∀ i, 1 ≤ i → i < l.length → Ok l i
theorem Hp.of {l : List It} (h : HpF 0 l) : Hp l := fun i h1 h2 => h i h1 h2 (Nat.zero_le _)
def chk (l : List It) : Bool := (List.range l.length).all fun i => decide (i = 0) || !lt (nth l i) (nth l (par i))
theorem chk_iff (l : List It) : chk l = true ↔ Hp l := by
  unfold chk Hp Ok
  rw [List.all_eq_true]
  constructor
  · intro h i h1 h2
    have := h i (List.mem_range.2 h2)
    have h0 : i ≠ 0 := by omega
    simpa [h0] using this
  · intro h i hi
    by_cases h0 : i = 0
    · simp [h0]
    · have := h i (by omega) (List.mem_range.1 hi)
      simp [this]
theorem chk_no {l : List It} {i : Nat} (h1 : 1 ≤ i) (h2 : i < l.length) (h : lt (nth l i) (nth l (par i)) = true) : chk l = false := by
  cases e : chk l
  · rfl
  · have := (chk_iff l).1 e i h1 h2; unfold Ok at this; rw [h] at this; cases this
theorem Hp.first {l : List It} (h : Hp l) : ∀ i, i < l.length → lt (nth l i) (nth l 0) = false := by
  intro i
  induction i using Nat.strongRecOn with
  | _ i ih =>
    intro hi
    by_cases h0 : i = 0
    · subst h0; exact lt_irr _
    · have hp : par i < i := by unfold par; omega
      exact le_trans (ih (par i) hp (by omega)) (h i (by omega) hi)
theorem Hp.least {l : List It} (h : Hp l) {x : It} (hx : x ∈ l) : lt x (nth l 0) = false := by
  obtain ⟨i, hi, rfl⟩ := mem_nth hx
  exact h.first i hi

/-- The least one of a place and the two below it. -/
def low1 (l : List It) (at_ : Nat) : Nat := if 2 * at_ + 1 < l.length ∧ lt (nth l (2 * at_ + 1)) (nth l at_) = true then 2 * at_ + 1 else at_
def low (l : List It) (at_ : Nat) : Nat := if 2 * at_ + 2 < l.length ∧ lt (nth l (2 * at_ + 2)) (nth l (low1 l at_)) = true then 2 * at_ + 2 else low1 l at_

theorem low_spec (l : List It) (a : Nat) : (low l a = a ∨ (low l a < l.length ∧ par (low l a) = a ∧ a < low l a ∧ lt (nth l (low l a)) (nth l a) = true)) ∧ ∀ i, 1 ≤ i → i < l.length → par i = a → lt (nth l i) (nth l (low l a)) = false := by
  have hc : ∀ i, 1 ≤ i → par i = a → i = 2 * a + 1 ∨ i = 2 * a + 2 := by unfold par; omega
  have p1 : par (2 * a + 1) = a := by unfold par; omega
  have p2 : par (2 * a + 2) = a := by unfold par; omega
  unfold low
  by_cases h1 : 2 * a + 1 < l.length ∧ lt (nth l (2 * a + 1)) (nth l a) = true
  · have e1 : low1 l a = 2 * a + 1 := by unfold low1; rw [if_pos h1]
    rw [e1]
    by_cases h2 : 2 * a + 2 < l.length ∧ lt (nth l (2 * a + 2)) (nth l (2 * a + 1)) = true
    · rw [if_pos h2]
      refine ⟨.inr ⟨h2.1, p2, by omega, lt_trans h2.2 h1.2⟩, fun i i1 i2 i3 => ?_⟩
      rcases hc i i1 i3 with rfl | rfl
      · exact lt_asym h2.2
      · exact lt_irr _
    · rw [if_neg h2]
      refine ⟨.inr ⟨h1.1, p1, by omega, h1.2⟩, fun i i1 i2 i3 => ?_⟩
      rcases hc i i1 i3 with rfl | rfl
      · exact lt_irr _
      · cases e : lt (nth l (2 * a + 2)) (nth l (2 * a + 1))
        · rfl
        · exact absurd ⟨i2, e⟩ h2
  · have e1 : low1 l a = a := by unfold low1; rw [if_neg h1]
    have q1 : ∀ i, i < l.length → i = 2 * a + 1 → lt (nth l i) (nth l a) = false := by
      rintro i hi rfl
      cases e : lt (nth l (2 * a + 1)) (nth l a)
      · rfl
      · exact absurd ⟨hi, e⟩ h1
    rw [e1]
    by_cases h2 : 2 * a + 2 < l.length ∧ lt (nth l (2 * a + 2)) (nth l a) = true
    · rw [if_pos h2]
      refine ⟨.inr ⟨h2.1, p2, by omega, h2.2⟩, fun i i1 i2 i3 => ?_⟩
      rcases hc i i1 i3 with rfl | rfl
      · exact le_trans (lt_asym h2.2) (q1 _ i2 rfl)
      · exact lt_irr _
    · rw [if_neg h2]
      refine ⟨.inl rfl, fun i i1 i2 i3 => ?_⟩
      rcases hc i i1 i3 with rfl | rfl
      · exact q1 _ i2 rfl
      · cases e : lt (nth l (2 * a + 2)) (nth l a)
        · rfl
        · exact absurd ⟨i2, e⟩ h2

/-- What sinking, and rising, come to. -/
inductive Sink : List It → Nat → List It → Prop
  | stop {l : List It} {a : Nat} : low l a = a → Sink l a l
  | step {l : List It} {a : Nat} {m : List It} : low l a ≠ a → Sink (sw l a (low l a)) (low l a) m → Sink l a m
inductive Rise : List It → Nat → List It → Prop
  | stop {l : List It} {a : Nat} : (1 ≤ a → Ok l a) → Rise l a l
  | step {l : List It} {a : Nat} {m : List It} : 1 ≤ a → lt (nth l a) (nth l (par a)) = true → Rise (sw l a (par a)) (par a) m → Rise l a m

theorem Sink.heap {l m : List It} {a lo : Nat} (h : Sink l a m) (ha : a < l.length) (hlo : lo ≤ a)
    (h1 : ∀ i, 1 ≤ i → i < l.length → lo ≤ par i → par i ≠ a → Ok l i) (h2 : ∀ i, 1 ≤ i → i < l.length → par i = a → 1 ≤ a → lo ≤ par a → lt (nth l i) (nth l (par a)) = false) :
    HpF lo m ∧ m.Perm l := by
  induction h with
  | @stop l a e =>
    refine ⟨fun i i1 i2 i3 => ?_, List.Perm.refl _⟩
    by_cases hp : par i = a
    · have := (low_spec l a).2 i i1 i2 hp
      rw [e] at this
      unfold Ok
      rw [hp]
      exact this
    · exact h1 i i1 i2 i3 hp
  | @step l a m e hs ih =>
    rcases low_spec l a with ⟨q | ⟨c1, c2, c3, c4⟩, hl⟩
    · exact absurd q e
    · generalize low l a = c at *
      have hw := fun k => nth_sw (k := k) ha c1
      have := ih (by rw [sw_len]; exact c1) (by omega) ?_ ?_
      · exact ⟨this.1, this.2.trans (sw_perm ha c1)⟩
      · intro i i1 i2 i3 i4
        rw [sw_len] at i2
        have hpi : par i < i := by unfold par; omega
        unfold Ok
        rw [hw, hw]
        by_cases x1 : i = c
        · subst x1
          rw [if_pos rfl, c2, if_neg (by omega), if_pos rfl]
          exact lt_asym c4
        · by_cases x2 : i = a
          · subst x2
            rw [if_neg x1, if_pos rfl, if_neg i4, if_neg (by omega)]
            exact h2 c (by omega) c1 c2 i1 i3
          · rw [if_neg x1, if_neg x2, if_neg i4]
            by_cases x3 : par i = a
            · rw [if_pos x3]
              exact hl i i1 i2 x3
            · rw [if_neg x3]
              exact h1 i i1 i2 i3 x3
      · intro i i1 i2 i3 i4 i5
        rw [sw_len] at i2
        have hpi : par i < i := by unfold par; omega
        rw [hw, hw, c2, if_neg (by omega), if_neg (by omega), if_neg (by omega), if_pos rfl]
        have := h1 i i1 i2 (by omega) (by omega)
        unfold Ok at this
        rw [i3] at this
        exact this
theorem Sink.stay {l m : List It} {a : Nat} (h : Sink l a m) (hc : ∀ i, 1 ≤ i → i < l.length → par i = a → lt (nth l i) (nth l a) = false) : m = l := by
  cases h with
  | stop e => rfl
  | step e hs =>
    rcases low_spec l a with ⟨q | ⟨c1, c2, c3, c4⟩, hl⟩
    · exact absurd q e
    · rw [hc _ (by omega) c1 c2] at c4; cases c4

theorem Rise.heap {l m : List It} {a : Nat} (h : Rise l a m) (ha : a < l.length) (h1 : ∀ i, 1 ≤ i → i < l.length → i ≠ a → Ok l i)
    (h2 : ∀ i, 1 ≤ i → i < l.length → par i = a → 1 ≤ a → lt (nth l i) (nth l (par a)) = false) : Hp m ∧ m.Perm l := by
  induction h with
  | @stop l a e =>
    refine ⟨fun i i1 i2 => ?_, List.Perm.refl _⟩
    by_cases q : i = a
    · subst q; exact e i1
    · exact h1 i i1 i2 q
  | @step l a m a1 hlt hs ih =>
    have hpa : par a < a := by unfold par; omega
    have hw := fun k => nth_sw (k := k) ha (show par a < l.length by omega)
    have := ih (by rw [sw_len]; omega) ?_ ?_
    · exact ⟨this.1, this.2.trans (sw_perm ha (by omega))⟩
    · intro i i1 i2 i3
      rw [sw_len] at i2
      have hpi : par i < i := by unfold par; omega
      unfold Ok
      rw [hw, hw, if_neg i3]
      by_cases x1 : i = a
      · subst x1
        rw [if_pos rfl, if_pos rfl]
        exact lt_asym hlt
      · rw [if_neg x1]
        have ok := h1 i i1 i2 x1
        unfold Ok at ok
        by_cases x2 : par i = par a
        · rw [if_pos x2]
          rw [x2] at ok
          exact le_trans (lt_asym hlt) ok
        · rw [if_neg x2]
          by_cases x3 : par i = a
          · rw [if_pos x3]
            exact h2 i i1 i2 x3 a1
          · rw [if_neg x3]
            exact ok
    · intro i i1 i2 i3 i4
      rw [sw_len] at i2
      have hpi : par i < i := by unfold par; omega
      have hpp : par (par a) < par a := by unfold par at *; omega
      have ok := h1 (par a) i4 (by omega) (by omega)
      unfold Ok at ok
      rw [hw, hw, if_neg (show i ≠ par a by omega), if_neg (show par (par a) ≠ par a by omega), if_neg (show par (par a) ≠ a by omega)]
      by_cases x1 : i = a
      · rw [if_pos x1]
        exact ok
      · rw [if_neg x1]
        have := h1 i i1 i2 x1
        unfold Ok at this
        rw [i3] at this
        exact le_trans ok this

/-- A thing more. -/
theorem push_heap {l m : List It} {x : It} (hl : Hp l) (h : Rise (l ++ [x]) l.length m) : Hp m ∧ m.Perm (x :: l) := by
  have hn : ∀ i, i < l.length → nth (l ++ [x]) i = nth l i := fun i hi => by unfold nth List.getD; rw [List.getElem?_append_left hi]
  obtain ⟨a, b⟩ := h.heap (by simp) (fun i i1 i2 i3 => by
    simp at i2
    have hpi : par i < i := by unfold par; omega
    unfold Ok
    rw [hn i (by omega), hn _ (by omega)]
    exact hl i i1 (by omega)) (fun i i1 i2 i3 i4 => by simp at i2; unfold par at i3; omega)
  exact ⟨a, b.trans (List.perm_append_comm (l₁ := l) (l₂ := [x]))⟩

/-- All but the one at a place. -/
theorem without_heap {l s m : List It} {a n : Nat} (hl : Hp l) (hn : l.length = n + 1) (ha : a < n) (h1 : Sink ((l.take n).set a (nth l n)) a s) (h2 : Rise s a m) : Hp m ∧ l.Perm (nth l a :: m) := by
  have hk : ∀ k, k < n → nth (l.take n) k = nth l k := fun k hk => by unfold nth List.getD; rw [List.getElem?_take, if_pos hk]
  have hlen : ((l.take n).set a (nth l n)).length = n := by simp; omega
  have hv : ∀ k, k < n → nth ((l.take n).set a (nth l n)) k = if k = a then nth l n else nth l k := fun k hk' => by
    rw [nth_set (by simp; omega)]
    split
    · rfl
    · exact hk k hk'
  have hperm : l.Perm (nth l a :: (l.take n).set a (nth l n)) := by
    have e : l = l.take n ++ [nth l n] := by
      refine List.ext_getElem? fun k => ?_
      rw [List.getElem?_append, List.length_take, show min n l.length = n by omega]
      split
      · next q => rw [List.getElem?_take, if_pos q]
      · next q =>
        by_cases q2 : k = n
        · subst q2; simp; exact nth_get (by omega)
        · rw [List.getElem?_eq_none (by omega)]; simp; omega
    have h3 : (nth l a :: (l.take n).set a (nth l n)).Perm (nth l n :: l.take n) := set_perm (by rw [nth_get (by simp; omega), hk a ha])
    refine List.Perm.trans ?_ h3.symm
    conv => lhs; rw [e]
    exact List.perm_append_comm (l₁ := l.take n) (l₂ := [nth l n])
  generalize (l.take n).set a (nth l n) = t at *
  have hch : ∀ i, 1 ≤ i → i < n → par i = a → 1 ≤ a → lt (nth l i) (nth l (par a)) = false := fun i i1 i2 i3 i4 => by
    have x1 := hl i i1 (by omega)
    have x2 := hl a i4 (by omega)
    unfold Ok at x1 x2
    rw [i3] at x1
    exact le_trans x2 x1
  have hpl : ∀ i, 1 ≤ i → par i < i := fun i hi => by unfold par; omega
  by_cases hc : 1 ≤ a ∧ lt (nth l n) (nth l (par a)) = true
  · have hpa := hpl a hc.1
    have hs : s = t := h1.stay fun i i1 i2 i3 => by
      rw [hlen] at i2
      have := hpl i i1
      rw [hv i i2, hv a ha, if_neg (by omega), if_pos rfl]
      exact le_trans (lt_asym hc.2) (hch i i1 i2 i3 hc.1)
    subst hs
    obtain ⟨x, y⟩ := h2.heap (by omega) (fun i i1 i2 i3 => by
      rw [hlen] at i2
      have hpi := hpl i i1
      unfold Ok
      rw [hv i i2, hv _ (by omega), if_neg i3]
      by_cases q : par i = a
      · rw [if_pos q]
        exact le_trans (lt_asym hc.2) (hch i i1 i2 q hc.1)
      · rw [if_neg q]
        exact hl i i1 (by omega)) (fun i i1 i2 i3 i4 => by
      rw [hlen] at i2
      have hpi := hpl i i1
      rw [hv i i2, hv _ (by omega), if_neg (by omega), if_neg (by omega)]
      exact hch i i1 i2 i3 i4)
    exact ⟨x, hperm.trans (y.symm.cons _)⟩
  · have hok : 1 ≤ a → lt (nth l n) (nth l (par a)) = false := fun h => by
      cases e : lt (nth l n) (nth l (par a))
      · rfl
      · exact absurd ⟨h, e⟩ hc
    obtain ⟨x, y⟩ := h1.heap (lo := 0) (by omega) (Nat.zero_le _) (fun i i1 i2 _ i3 => by
      rw [hlen] at i2
      have hpi := hpl i i1
      unfold Ok
      rw [hv i i2, hv _ (by omega), if_neg i3]
      by_cases q : i = a
      · subst q
        rw [if_pos rfl]
        exact hok i1
      · rw [if_neg q]
        exact hl i i1 (by omega)) (fun i i1 i2 i3 i4 _ => by
      rw [hlen] at i2
      have hpi := hpl i i1
      have hpa := hpl a i4
      rw [hv i i2, hv _ (by omega), if_neg (by omega), if_neg (by omega)]
      exact hch i i1 i2 i3 i4)
    have hx := Hp.of x
    have hsl : s.length = n := by rw [y.length_eq, hlen]
    obtain ⟨u, v⟩ := h2.heap (by omega) (fun i i1 i2 _ => hx i i1 i2) (fun i i1 i2 i3 i4 => by
      have x1 := hx i i1 i2
      have x2 := hx a i4 (by omega)
      unfold Ok at x1 x2
      rw [i3] at x1
      exact le_trans x2 x1)
    exact ⟨u, hperm.trans ((v.trans y).symm.cons _)⟩
/-- All but the last. -/
theorem without_last {l : List It} {n : Nat} (hl : Hp l) (hn : l.length = n + 1) : Hp (l.take n) ∧ l.Perm (nth l n :: l.take n) := by
  have hk : ∀ k, k < n → nth (l.take n) k = nth l k := fun k hk => by unfold nth List.getD; rw [List.getElem?_take, if_pos hk]
  refine ⟨fun i i1 i2 => ?_, ?_⟩
  · simp at i2
    have hpi : par i < i := by unfold par; omega
    unfold Ok
    rw [hk i (by omega), hk _ (by omega)]
    exact hl i i1 (by omega)
  · have e : l = l.take n ++ [nth l n] := by
      refine List.ext_getElem? fun k => ?_
      rw [List.getElem?_append, List.length_take, show min n l.length = n by omega]
      split
      · next q => rw [List.getElem?_take, if_pos q]
      · next q =>
        by_cases q2 : k = n
        · subst q2; simp; exact nth_get (by omega)
        · rw [List.getElem?_eq_none (by omega)]; simp; omega
    conv => lhs; rw [e]
    exact List.perm_append_comm (l₁ := l.take n) (l₂ := [nth l n])
end Go.Proofs.Ytpfidohneddgkaa
