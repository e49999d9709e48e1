/-
  Lists of texts: what the records of a text are, in plain words (Recs); a slice of slices of bytes (Els); append onto one; the contract of wire's Records.
-/
import Derived.Test.YtkbcmnheecihiaaI
namespace Go.Proofs.Ytkbcmnheecihiaa
open Go Go.RowKit

/-- The records of a text from a place on: the error's number, and the records. -/
inductive Recs (bs : List Nat) : Nat → Nat → List (List Nat) → Prop
  | done {k : Nat} : bs.length ≤ k → Recs bs k 0 []
  | bad {k a p e : Nat} : k < bs.length → bod bs k = (a, p, e) → e ≠ 0 → Recs bs k e []
  | more {k p q : Nat} {ls : List (List Nat)} : bod bs k = (p, q, 0) → Recs bs q 0 ls → Recs bs k 0 ((bs.take q).drop k :: ls)
  | worse {k p q e : Nat} {ls : List (List Nat)} : bod bs k = (p, q, 0) → Recs bs q e ls → e ≠ 0 → Recs bs k e []

theorem Recs.total (bs : List Nat) (ho : Oct bs) : ∀ (m k : Nat), bs.length - k ≤ m → ∃ e ls, Recs bs k e ls
  | 0, k, h => ⟨0, [], .done (by omega)⟩
  | m + 1, k, h => by
    by_cases hk : bs.length ≤ k
    · exact ⟨0, [], .done hk⟩
    · obtain ⟨a, p, e, hb⟩ : ∃ a p e, bod bs k = (a, p, e) := ⟨_, _, _, rfl⟩
      by_cases he : e = 0
      · subst he
        obtain ⟨_, h1, h2, h3, _⟩ := bod_ok ho hb
        obtain ⟨e', ls, hr⟩ := Recs.total bs ho m p (by omega)
        by_cases he' : e' = 0
        · subst he'; exact ⟨0, _, .more hb hr⟩
        · exact ⟨e', [], .worse hb hr he'⟩
      · exact ⟨e, [], .bad (by omega) hb he⟩
theorem Recs.none {bs : List Nat} {k e : Nat} {ls : List (List Nat)} (h : Recs bs k e ls) (he : e ≠ 0) : ls = [] := by
  cases h with
  | done _ => rfl
  | bad _ _ _ => rfl
  | more _ _ => exact absurd rfl he
  | worse _ _ _ => rfl

theorem bod_end {bs : List Nat} {k : Nat} (h : bs.length ≤ k) : bod bs k = (0, 0, 3) := by unfold bod; rw [if_pos h]
theorem Recs.end_ {bs : List Nat} {k e : Nat} {ls : List (List Nat)} (h : Recs bs k e ls) (hk : bs.length ≤ k) : e = 0 ∧ ls = [] := by
  cases h with
  | done _ => exact ⟨rfl, rfl⟩
  | bad h1 _ _ => omega
  | more h1 _ => rw [bod_end hk] at h1; simp at h1
  | worse h1 _ _ => rw [bod_end hk] at h1; simp at h1
theorem Recs.step {bs : List Nat} {k p q e : Nat} {ls : List (List Nat)} (h : Recs bs k e ls) (hk : k < bs.length) (hb : bod bs k = (p, q, 0)) : ∃ ms, Recs bs q e ms ∧ (e = 0 → ls = (bs.take q).drop k :: ms) := by
  cases h with
  | done h1 => omega
  | bad _ h1 h2 => rw [hb] at h1; simp at h1; omega
  | more h1 h2 =>
    rw [hb] at h1
    simp at h1
    obtain ⟨rfl, rfl⟩ := h1
    exact ⟨_, h2, fun _ => rfl⟩
  | worse h1 h2 h3 =>
    rw [hb] at h1
    simp at h1
    obtain ⟨rfl, rfl⟩ := h1
    exact ⟨_, h2, fun h => absurd h h3⟩
theorem Recs.stop {bs : List Nat} {k a p e e1 : Nat} {ls : List (List Nat)} (h : Recs bs k e ls) (hk : k < bs.length) (hb : bod bs k = (a, p, e1)) (he : e1 ≠ 0) : e = e1 := by
  cases h with
  | done h1 => omega
  | bad _ h1 h2 => rw [hb] at h1; simp at h1; omega
  | more h1 h2 => rw [hb] at h1; simp at h1; omega
  | worse h1 h2 h3 => rw [hb] at h1; simp at h1; omega

/-- A value is a slice that holds a text. -/
def Elem (w : World) (v : Value) (l : List Nat) : Prop := ∃ A c, v = .slice A l.length c ∧ Own w 0 5 A l.length c (bv l)
def Els (w : World) (vs : List Value) (ls : List (List Nat)) : Prop := vs.length = ls.length ∧ ∀ (j : Nat) v l, vs[j]? = some v → ls[j]? = some l → Elem w v l
theorem Els.nil (w : World) : Els w [] [] := ⟨rfl, fun j v l h => by simp at h⟩
theorem Els.app {w : World} {vs us : List Value} {ls ms : List (List Nat)} (h : Els w vs ls) (k : Els w us ms) : Els w (vs ++ us) (ls ++ ms) := by
  refine ⟨by rw [List.length_append, List.length_append, h.1, k.1], fun j v l hv hl => ?_⟩
  by_cases hj : j < vs.length
  · rw [List.getElem?_append_left hj] at hv
    rw [List.getElem?_append_left (by rw [← h.1]; exact hj)] at hl
    exact h.2 j v l hv hl
  · rw [List.getElem?_append_right (by omega)] at hv
    rw [List.getElem?_append_right (by rw [← h.1]; omega), ← h.1] at hl
    exact k.2 _ v l hv hl
theorem Els.one {w : World} {v : Value} {l : List Nat} (h : Elem w v l) : Els w [v] [l] :=
  ⟨rfl, fun j u m hu hm => by
    match j, hu, hm with
    | 0, hu, hm => simp at hu hm; subst hu; subst hm; exact h⟩
theorem Elem.below {w w' : World} {v : Value} {l : List Nat} (h : Elem w v l) (hb : Below w.heap.size w w') : Elem w' v l := by
  obtain ⟨A, c, e, ho⟩ := h; exact ⟨A, c, e, ho.below hb⟩
theorem Els.below {w w' : World} {vs : List Value} {ls : List (List Nat)} (h : Els w vs ls) (hb : Below w.heap.size w w') : Els w' vs ls := ⟨h.1, fun j v l hv hl => (h.2 j v l hv hl).below hb⟩
theorem Els.cells {w : World} {vs : List Value} {ls : List (List Nat)} (h : Els w vs ls) : ∀ u ∈ vs, u.oneCell' = true := by
  intro u hu
  obtain ⟨j, hj, rfl⟩ := List.getElem_of_mem hu
  obtain ⟨A, c, e, _⟩ := h.2 j vs[j] (ls[j]'(by rw [← h.1]; exact hj)) (List.getElem?_eq_getElem hj) (List.getElem?_eq_getElem _)
  rw [e]; rfl
/-- A slice of bytes is not touched where a slice of slices grows. -/
theorem Elem.grown {w w' : World} {v : Value} {l : List Nat} {A : Option Addr} {n c base : Nat} {us : List Value} (h : Elem w v l) (ho : Own w base 22 A n c us) (hg : w.grownBy w' (Value.ownBlock (.slice A n c))) : Elem w' v l := by
  obtain ⟨A', c', e, hw⟩ := h
  refine ⟨A', c', e, hw.1, ?_⟩
  rcases hw.2 with h0 | ⟨g, cap, cur, hv, hgb, hh, r⟩
  · exact .inl h0
  · refine .inr ⟨g, cap, cur, hv, hgb, ?_, r⟩
    rw [hg.block g (Array.getElem?_eq_some_iff.1 hh).1 (fun e => ?_)]
    · exact hh
    · rcases ho.2 with ⟨h1, _⟩ | ⟨g', cap', cur', h1, _, hh', _⟩
      · rw [h1] at e; simp [Value.ownBlock] at e
      · rw [h1] at e
        simp [Value.ownBlock] at e
        subst e
        rw [hh] at hh'
        simp at hh'
theorem Els.grown {w w' : World} {vs : List Value} {ls : List (List Nat)} {A : Option Addr} {n c base : Nat} {us : List Value} (h : Els w vs ls) (ho : Own w base 22 A n c us) (hg : w.grownBy w' (Value.ownBlock (.slice A n c))) : Els w' vs ls :=
  ⟨h.1, fun j v l hv hl => (h.2 j v l hv hl).grown ho hg⟩

section
variable {P : Program} (w : World)
/-- append, as text A has it, with the one block told that it may have written. -/
theorem run_appg (base : Nat) (t ty e : TypeId) (z : Value) (bytes : Nat) (ht : P.underlying t = some (.slice e)) (hi : (P.info? e).map (fun i => (i.zero, i.size, i.bytes)) = some (some z, 1, bytes)) (hz : z.cells.size = 1)
    (A : Option Addr) (n c : Nat) (vs : List Value) (hown : Own w base e A n c vs) (B : Nat) (A2 : Option Addr) (m c2 : Nat) (news : List Value) (hr : Row w B A2 m news) (h1 : ∀ u ∈ news, u.oneCell' = true)
    (hb : (n + m) * bytes ≤ 140737488355328) (hp : 0 < bytes) (hbase : base ≤ w.heap.size) :
    ∃ A' c' w', (Builtin.append_ #[t, t] ty #[.slice A n c, .slice A2 m c2]).run P w = .ok (.slice A' (n + m) c') w' ∧ Own w' base e A' (n + m) c' (vs ++ news) ∧ Below base w w' ∧ w.grownBy w' (Value.ownBlock (.slice A n c)) := by
  obtain ⟨i, hi0, hi1, hi2, hi3⟩ := info_parts hi
  have hfin : ∀ v' w', w'.ownsRow base e 1 v' (n + m) (vs ++ news) → w.grownBy w' (Value.ownBlock (.slice A n c)) → ∃ A' c', v' = .slice A' (n + m) c' ∧ Own w' base e A' (n + m) c' (vs ++ news) ∧ Below base w w' ∧ w.grownBy w' (Value.ownBlock (.slice A n c)) := by
    intro v' w' h2 h3
    have hbel : Below base w w' := (Below.refl _ _).grown h3 hbase (fun k hk => (World.ownsRow.lt hown k hk).1)
    rcases h2.2 with ⟨rfl, h0⟩ | ⟨g, cap, cur, rfl, r⟩
    · rw [h0] at h2 ⊢; exact ⟨none, 0, rfl, h2, hbel, h3⟩
    · exact ⟨_, _, rfl, h2, hbel, h3⟩
  have hle : n + m ≤ maxLen := by
    have : n + m ≤ (n + m) * bytes := Nat.le_mul_of_pos_right _ hp
    unfold maxLen; omega
  by_cases h0 : 0 < m
  · obtain ⟨b, o, rfl, _, hc⟩ := hr.2 h0
    obtain ⟨v', w', hrun, h2, h3, _, _⟩ := run_append_own_at (P := P) w base t ty e i z 1 bytes ht hi0 hi1 hi2 hi3 hz (by omega) (.slice A n c) n vs hown ⟨b, o, none⟩ m c2 news (by simpa using hr.1) (fun j u hu => by rw [plain_add]; exact hc j u hu) h1 hle hb hbase
    obtain ⟨A', c', rfl, r⟩ := hfin v' w' h2 h3
    exact ⟨A', c', w', hrun, r⟩
  · obtain rfl : m = 0 := by omega
    obtain rfl : news = [] := List.eq_nil_of_length_eq_zero hr.1
    rcases A2 with _ | ⟨b, o, s⟩
    · refine ⟨A, c, w, ?_, by simpa [Own] using hown, Below.refl _ _, World.grownBy.refl _ _⟩
      rcases hown.2 with ⟨hv, rfl⟩ | ⟨g, cap, cur, hv, _, _, hnc, _⟩
      · injection hv with h1 h2 h3; subst h1; subst h3
        simp [Builtin.append_, run_underlying ht, sizeOf, typeInfo, hi0, Builtin.lenOf, Builtin.firstCells]
      · injection hv with h1 h2 h3; subst h1; subst h3
        simp [Builtin.append_, run_underlying ht, sizeOf, typeInfo, hi0, Builtin.lenOf, Builtin.firstCells, hnc, storeCells]
    · obtain ⟨v', w', hrun, h2, h3, _, _⟩ := run_append_own_at (P := P) w base t ty e i z 1 bytes ht hi0 hi1 hi2 hi3 hz (by omega) (.slice A n c) n vs hown ⟨b, o, s⟩ 0 c2 [] rfl (fun j u hu => by simp at hu) h1 hle hb hbase
      obtain ⟨A', c', rfl, r⟩ := hfin v' w' h2 h3
      exact ⟨A', c', w', hrun, r⟩
theorem wpList_appg {ops : Array Oper} {rest : List Oper} {o : Oper} {a : Act} {Q : Exit → Act → World → Prop} (hgd : o.guard = none) (s x : Operand) (t : TypeId)
    (ho : o.op = .call { callee := .builtin .append, args := #[s, x], argTypes := #[t, t] })
    (base : Nat) (e : TypeId) (z : Value) (bytes : Nat) (ht : P.underlying t = some (.slice e)) (hi : (P.info? e).map (fun i => (i.zero, i.size, i.bytes)) = some (some z, 1, bytes)) (hz : z.cells.size = 1)
    (A : Option Addr) (n c : Nat) (vs : List Value) (hs : a.eval s = .slice A n c) (hown : Own w base e A n c vs) (B : Nat) (A2 : Option Addr) (m c2 : Nat) (news : List Value) (hx : a.eval x = .slice A2 m c2) (hr : Row w B A2 m news)
    (h1 : ∀ u ∈ news, u.oneCell' = true) (hb : (n + m) * bytes ≤ 140737488355328) (hp : 0 < bytes) (hbase : base ≤ w.heap.size)
    (h : ∀ A' c' w', Own w' base e A' (n + m) c' (vs ++ news) → Below base w w' → w.grownBy w' (Value.ownBlock (.slice A n c)) → wpList P ops Q rest (a.put o.dst (.slice A' (n + m) c')) w') : wpList P ops Q (o :: rest) a w := by
  refine wpList_plain hgd fun _ hK => ?_
  obtain ⟨A', c', w', hrun, h2, h3, h4⟩ := run_appg (P := P) w base t o.type e z bytes ht hi hz A n c vs hown B A2 m c2 news hr h1 hb hp hbase
  unfold Oper.wp execOp
  simp only [ho, resolve, invoke, builtin, Sem.run_bind, Sem.run_pure, Result.andThen_ok, List.map_toArray, List.map_cons, List.map_nil, hs, hx, hrun]
  exact hK _ _ (h A' c' w' h2 h3 h4)
end

/-- What Records tells. -/
def RetL (ls : List (List Nat)) (e : Nat) (w : World) (r : Ending) (w' : World) : Prop :=
  ∃ A n c vs, r = .returned (.tuple #[.slice A n c, .int .i64 (e : Int)]) ∧ Own w' w.heap.size 22 A n c vs ∧ Els w' vs ls ∧ Below w.heap.size w w'

def RecsRel (bs : List Nat) (ls : List (List Nat)) (e : Nat) (w : World) (a l : Value) (wr : World) : Prop :=
  ∃ (k n c : Nat) (A : Option Addr) (vs : List Value) (ds ms : List (List Nat)), a = .int .i64 (k : Int) ∧ l = .slice A n c ∧ Recs bs k e ms ∧ (e = 0 → ls = ds ++ ms) ∧ n ≤ k ∧ (k ≤ bs.length ∨ n = 0) ∧ k ≤ 9000000000000000000 ∧
    Own wr w.heap.size 22 A n c vs ∧ Els wr vs ds ∧ Below w.heap.size w wr

set_option maxRecDepth 100000 in
set_option maxHeartbeats 2000000 in
theorem records_any (A : Option Addr) (n c B k0 e : Nat) (bs : List Nat) (ls : List (List Nat)) (w : World) (hr : Row w B A n (bv bs)) (hB : B ≤ w.heap.size) (ho : Oct bs) (hn : n ≤ 100000) (hnc : n ≤ c) (hk0 : k0 ≤ 9000000000000000000) (hR : Recs bs k0 e ls) :
    Calls Try.prog 23 #[.slice A n c, .int .i64 (k0 : Int)] w (RetL ls e w) := by
  have HR := hid hr
  have HO := hid ho
  have hl := hr.1
  rw [bv_len] at hl
  have HL := hid hl
  have HRS := hid hR
  have HNE : Hid (e ≠ 0 → ls = []) := hid (fun h => hR.none h)
  clear hr ho hl hR
  go_enter Try.func23, Try.ntmps23
  go_wp2
  go_loopw [1, 6] (RecsRel bs ls e w) (fun a _ _ => n - (intOf a).toNat)
  case atStart => exact ⟨k0, 0, 0, none, [], [], ls, rfl, rfl, HRS.out, fun _ => rfl, Nat.zero_le _, .inr rfl, hk0, Own.nil _ _ _, Els.nil _, Below.refl _ _⟩
  case round =>
    obtain ⟨k, n', c', A', vs, ds, ms, rfl, rfl, hrecs, hls, hnk, hkl, hk9, hown, hels, hbel⟩ := hrel
    have HLS := hid hls
    have HOW := hid hown
    have HE := hid hels
    have HBL := hid hbel
    have HRC := hid hrecs
    clear hls hown hels hbel HRS hrecs
    by_cases hlt : k < n
    · obtain ⟨a, p, e1, hb⟩ : ∃ a p e1, bod bs k = (a, p, e1) := ⟨_, _, _, rfl⟩
      have HBOD := hid hb
      by_cases he1 : e1 = 0
      · subst he1
        obtain ⟨hkb, h1, h2, h3, h4, _⟩ := bod_ok HO.out hb
        have hpn : p ≤ n := by have := HL.out; omega
        obtain ⟨ms', hrec', hms⟩ := HRC.out.step hkb hb
        have HRC' := hid hrec'
        have HMS := hid hms
        have HC : Hid (Row wr B (A.map (fun x => x.add k)) (p - k) (bv ((bs.take p).drop k))) := hid (by
          have := (HR.out.below (HBL.out.mono hB)).cut (show k ≤ p by omega) hpn hnc
          rw [bv_take, bv_drop, if_neg (by omega)] at this
          exact this)
        have hpk : ((bs.take p).drop k).length = p - k := by rw [List.length_drop, List.length_take]; omega
        have HPK := hid hpk
        clear hpk
        clear hb hrec' hms HRC
        go_wp2_with (go_at_call 32; refine (bodyAt_any A n c B k a p 0 bs _ (HR.out.below (HBL.out.mono hB)) HO.out (by omega) (by omega) HBOD.out).mono ?_; rintro r w' ⟨rfl, rfl⟩)
        refine (copied_0 _ _ _ B _ wr HC.out (bv_one _) (by omega) (Nat.le_trans hB HBL.out.size)).mono ?_
        rintro r w1 ⟨A5, n5, c5, rfl, own5, bel5⟩
        have e5 : n5 = p - k := by have := own5.len; rw [bv_len, HPK.out] at this; omega
        subst e5
        have HB1 : Hid (Below w.heap.size w w1) := hid (HBL.out.trans (bel5.mono HBL.out.size))
        have HE1 : Hid (Elem w1 (.slice A5 (p - k) c5) ((bs.take p).drop k)) := hid ⟨A5, c5, by rw [HPK.out], by rw [HPK.out]; exact own5.base_le (Nat.zero_le _)⟩
        have HE2 : Hid (Els w1 vs ds) := hid (HE.out.below bel5)
        have HO1 : Hid (Own w1 w.heap.size 22 A' n' c' vs) := hid (HOW.out.below bel5)
        have hbs : n' ≤ 100000 := by omega
        clear own5 bel5 HE HOW HBL HC
        go_wp2_with (at_builtin; refine wpList_appg _ rfl (.tmp 24) (.tmp 30) 44 rfl w.heap.size 22 (.slice none 0 0) 24 Try.underlying44 info22 rfl A' n' c' vs rfl (HO1.out.alloc _) (w1.heap.size + 1) _ 1 1 [_] rfl (Row.laid w1 22 [_]) (by intro u hu; simp at hu; subst hu; rfl) (by omega) (by omega) (by have := HB1.out.size; simp; omega) ?_; intro A6 c6 w2 own6 bel6 gr6)
        have hal : Below w1.heap.size w1 (w1.alloc (.cells #[.slice A5 (p - k) c5] 22)) := (Below.refl _ _).alloc (Nat.le_refl _) _
        have HELS : Hid (Els w2 (vs ++ [.slice A5 (p - k) c5]) (ds ++ [(bs.take p).drop k])) := hid (((HE2.out.below hal).app (Els.one (HE1.out.below hal))).grown (HO1.out.alloc _) gr6)
        have HBF : Hid (Below w.heap.size w w2) := hid ((HB1.out.alloc HB1.out.size _).trans bel6)
        have HLS' : Hid (e = 0 → ls = (ds ++ [(bs.take p).drop k]) ++ ms') := hid (fun h => by rw [HLS.out h, HMS.out h, List.append_assoc]; rfl)
        have HOF := hid own6
        clear own6 bel6 gr6 hal HE1 HE2 HO1 HB1 HMS HLS
        go_roundw
        case rel => exact ⟨p, n' + 1, c6, A6, _, _, ms', rfl, rfl, HRC'.out, HLS'.out, by omega, .inl (by have := HL.out; omega), by omega, HOF.out, HELS.out, HBF.out⟩
        case measure => simp [intOf]; omega
      · have HF : Hid (e1 = e) := hid (HRC.out.stop (by have := HL.out; omega) hb he1).symm
        have HLN : Hid (ls = []) := hid (HNE.out (by have := HF.out; omega))
        have hne : ((e1 : Int) != 0) = true := by rw [bne_iff_ne]; omega
        clear hb
        go_wp2_with (go_at_call 32; refine (bodyAt_any A n c B k a p e1 bs _ (HR.out.below (HBL.out.mono hB)) HO.out (by omega) (by omega) HBOD.out).mono ?_; rintro r w' ⟨rfl, rfl⟩)
        go_ret2
        exact ⟨none, 0, 0, [], by rw [← HF.out]; rfl, Own.nil _ _ _, by rw [HLN.out]; exact Els.nil _, HBL.out⟩
    · obtain ⟨he0, hm0⟩ := HRC.out.end_ (by have := HL.out; omega)
      have HZ := hid he0
      have HM := hid hm0
      clear he0 hm0
      go_wp2
      go_ret2
      exact ⟨A', n', c', vs, by rw [HZ.out]; rfl, HOW.out, by rw [HLS.out HZ.out, HM.out, List.append_nil]; exact HE.out, HBL.out⟩
end Go.Proofs.Ytkbcmnheecihiaa
