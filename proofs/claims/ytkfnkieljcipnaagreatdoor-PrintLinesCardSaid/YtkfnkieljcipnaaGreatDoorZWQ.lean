/-
  Plain words: how many lines a text has that is printed. A string as a slice of bytes. No condition but what each head says.
-/
import Derived.Test.YtkfnkieljcipnaaGreatDoorZWP
import Derived.Test.YtkfnkieljcipnaaGreatDoorK8
import Derived.Lib.ConvBytes
namespace Go.Proofs.YtkfnkieljcipnaaGreatDoor
open Go Go.RowKit Go.Joins

def nls (l : List UInt8) : Nat := l.countP (· == 10)
theorem nls_app (a b : List UInt8) : nls (a ++ b) = nls a + nls b := List.countP_append
theorem nls_le (l : List UInt8) : nls l ≤ l.length := List.countP_le_length
theorem nls_none {l : List UInt8} (h : ∀ c ∈ l, c ≠ 10) : nls l = 0 := List.countP_eq_zero.2 fun c hc => by simpa using h c hc
theorem nls_take {l : List UInt8} {i : Nat} (h : i < l.length) : nls (l.take (i + 1)) = nls (l.take i) + (if l.getD i 0 = 10 then 1 else 0) := by
  rw [List.take_add_one, nls_app]
  have e : l[i]? = some (l.getD i 0) := by rw [List.getD_eq_getElem?_getD, List.getElem?_eq_getElem h]; rfl
  rw [e]
  simp only [Option.toList_some, nls, List.countP_cons, List.countP_nil, beq_iff_eq]
  omega
theorem u8_ne {x : UInt8} (h : ¬ x = 10) : ((x.toNat : Int) == 10) = false := beq_eq_false_iff_ne.2 fun e => h (UInt8.toNat_inj.1 (by rw [show x.toNat = 10 by omega]; rfl))
theorem nls_ld {l : List UInt8} (h : l.all ldB = true) : nls l = 0 := nls_none fun c hc e => by
  have := List.all_eq_true.1 h c hc
  rw [e] at this
  exact absurd this (by decide)
theorem nls_num (n : Int) (t : Bool) : nls (numX n t) = 0 := by
  have hi : ∀ m : Int, nls (Lib.itoa m) = 0 := by
    intro m
    obtain ⟨ds, h1, _, _, _, h5⟩ := itoa_form m
    have hd : ∀ c ∈ ds, c ≠ 10 := fun c hc e => by
      have := h1 c hc
      rw [e] at this
      exact absurd this.1 (by decide)
    rcases h5 with ⟨_, h5⟩ | ⟨_, h5⟩
    · rw [h5]
      exact nls_none fun c hc => by
        rcases List.mem_cons.1 hc with rfl | hc
        · decide
        · exact hd c hc
    · rw [h5]; exact nls_none hd
  unfold numX
  split
  · rw [nls_app, hi]
    have : nls (unitOf n).1 = 0 := by
      unfold unitOf
      repeat' split
      all_goals decide
    omega
  · exact hi n
theorem nls_nums : ∀ ns : List (Int × Bool), nls (numsL ns) = 0
  | [] => rfl
  | x :: ns => by
    rw [numsL_cons, nls_app, nls_nums ns]
    show nls ([32] ++ numX x.1 x.2) + 0 = 0
    rw [nls_app, nls_num]; rfl
theorem nls_word {wd : List UInt8} (h : wordB wd = true) : nls wd = 0 := by
  match wd, h with
  | c :: r, h =>
    simp only [wordB, Bool.and_eq_true] at h
    refine nls_ld ?_
    rw [List.all_cons, h.1.2, Bool.and_true]
    simp [ldB, h.1.1]
/-- a line for each statement, and one for each block's end -/
def Fo.nlF : Fo → Nat
  | nil => 0
  | cons _ _ bl y n => 1 + (if bl then 1 else 0) + y.nlF + n.nlF
theorem text_nls : ∀ (f : Fo) (k : Int) (sp : List UInt8), f.okA k → (∀ c ∈ sp, c = 32) → nls (f.text sp) = f.nlF
  | .nil, _, _, _, _ => rfl
  | .cons wd ns bl y n, k, sp, h, hs => by
    obtain ⟨h1, h2, h3, h4⟩ := h
    obtain ⟨hw, _, _, hb⟩ := fit_of h1
    have ih := text_nls n k sp h4 hs
    have hsp : nls sp = 0 := nls_none fun c hc => by rw [hs c hc]; decide
    have hl : nls (lineF wd ns bl) = 0 := by
      unfold lineF
      rw [nls_app, nls_app, nls_word hw, nls_nums]
      cases bl <;> rfl
    have h10 : ∀ l, nls (10 :: l) = 1 + nls l := fun l => by simp [nls, Nat.add_comm]
    cases bl with
    | false =>
      have hy : y = .nil := by
        match y, hb rfl with
        | .nil, _ => rfl
      subst hy
      simp only [Fo.text, Fo.nlF, nls_app, h10, hsp, hl, ih, if_false, Bool.false_eq_true, List.nil_append]
      omega
    | true =>
      have hs2 : ∀ c ∈ sp ++ [32, 32], c = 32 := by
        intro c hc
        rcases List.mem_append.1 hc with hc | hc
        · exact hs c hc
        · simpa using hc
      have ihy := text_nls y (k - 1) (sp ++ [32, 32]) h3 hs2
      have h2 : nls [125, 10] = 1 := by decide
      simp only [Fo.text, Fo.nlF, nls_app, h10, hsp, hl, ih, ihy, if_true, h2]
      omega
def Fo.wants : Fo → Nat
  | nil => 0
  | cons _ _ bl _ n => 1 + (if bl then 1 else 0) + n.wants
theorem Fo.wants_app (f g : Fo) : (f.app g).wants = f.wants + g.wants := by
  induction f with
  | nil => simp [Fo.app, Fo.wants]
  | cons w ns b y n _ ih => simp only [Fo.app, Fo.wants, ih]; omega
theorem flat_wants (f : Fo) : f.flat.wants = f.nlF := by
  induction f with
  | nil => rfl
  | cons w ns b y n ih1 ih2 => simp only [Fo.flat, Fo.wants, Fo.nlF, Fo.wants_app, ih1, ih2]; omega
theorem Fo.wants_le (f : Fo) : f.wants ≤ 2 * f.len := by
  induction f with
  | nil => simp [Fo.wants]
  | cons w ns b y n _ ih => simp only [Fo.wants, Fo.len]; split <;> omega
theorem Fo.okA_app2 {f g : Fo} {k : Int} (h : (f.app g).okA k) : f.okA k ∧ g.okA k := by
  induction f with
  | nil => exact ⟨trivial, h⟩
  | cons w ns b y n _ ih => exact ⟨⟨h.1, h.2.1, h.2.2.1, (ih h.2.2.2).1⟩, (ih h.2.2.2).2⟩
theorem prE_app {f g : Fo} (h : prE (f.app g) = 0) : prE f = 0 ∧ prE g = 0 := by
  obtain ⟨h1, h2, h3, _⟩ := prE_ok h
  obtain ⟨a, b⟩ := Fo.okA_app2 h1
  rw [Fo.count_app] at h2
  rw [Fo.text_app, List.length_append] at h3
  exact ⟨by unfold prE; rw [if_pos (ok_chk a (by omega)), if_neg (by omega)], by unfold prE; rw [if_pos (ok_chk b (by omega)), if_neg (by omega)]⟩

theorem wp_tobytes {w : World} {ops : Array Oper} {rest : List Oper} {o : Oper} {a : Act} {Q : Exit → Act → World → Prop} (hg : o.guard = none) (y : Operand) (ho : o.op = .convert 9 54 y) {s : ByteArray} (hy : a.eval y = .string s)
    (h : ∀ w' c, Below w.heap.size w w' → (∀ j, j < s.size → w'.cell? ⟨w.heap.size, j, none⟩ = some (.int .u8 (s.data.toList.getD j 0).toNat)) → wpList Tryz.prog ops Q rest (a.put o.dst (.slice (some ⟨w.heap.size, 0, none⟩) s.size c)) w') : wpList Tryz.prog ops Q (o :: rest) a w := by
  refine wpList_plain hg fun K hK => ?_
  have hr := Lib.run_convert_string_bytes (P := Tryz.prog) w 9 54 5 s Tryz.underlying9 Tryz.underlying54 Tryz.underlying5
  unfold Oper.wp execOp
  simp only [ho, hy, Sem.run_bind, hr, Result.andThen_ok, Sem.run_pure]
  refine hK _ _ (h _ _ ⟨rfl, rfl, rfl, by rw [Lib.bytesWorld_size]; omega, fun k hk => Lib.bytesWorld_at_old w _ s k hk⟩ fun j hj => Lib.bytesWorld_cell w _ s j hj)
end Go.Proofs.YtkfnkieljcipnaaGreatDoor
