/-
  A printer (a struct that embeds a strings.Builder) in a block of the call's own: what it holds (PB), what a call turns that writes to it alone (PMov); contracts of the embedded builder's copyCheck, WriteString, Len, String. Texts of at most 2^40 bytes.
-/
import Derived.Test.YtkfnkieljcipnaaGreatDoorK5
import Derived.Test.YtkfnkieljcipnaaGreatDoorK3
import Derived.Lib.Builder
import Derived.Lib.AppendStr
import Derived.Lib.UnsafeStr
import Derived.Shelf.Strings.BuilderX
import Derived.Deep.RegionHeld3
namespace Go.Proofs.YtkfnkieljcipnaaGreatDoor
open Go Go.RowKit Go.Joins

/-- Block b, of a call's own (from B on), is a printer that holds l. -/
structure PBv (w : World) (B b : Nat) (p v : Value) (l : List UInt8) : Prop where
  le : B ≤ b
  blk : w.heap[b]? = some (.cells #[p, v] 77 (0, 0))
  own : w.ownsRow B 5 1 v l.length (Lib.byteCells l)
  ne : v.ownBlock ≠ some b
  adr : p = .pointer none ∨ p = .pointer (some ⟨b, 0, none⟩)
  nil : l = [] → v = .slice none 0 0
def PB (w : World) (B b : Nat) (l : List UInt8) : Prop := ∃ p v, PBv w B b p v l
def bufB (w : World) (b : Nat) : Option Nat := match w.heap[b]? with
  | some (.cells cs _ _) => (cs.toList.getD 1 undef).ownBlock
  | _ => none
/-- Of what was there at w only the printer b and its buffer may have turned. -/
structure PMov (B b : Nat) (w w' : World) : Prop where
  bel : Below B w w'
  keep : ∀ j, j < w.heap.size → j ≠ b → bufB w b ≠ some j → w'.heap[j]? = w.heap[j]?
  buf : ∀ j, j < w.heap.size → bufB w' b = some j → bufB w b = some j
section
variable {w w' w2 : World} {B b j : Nat} {p v : Value} {l : List UInt8}
theorem bufB_of {cs : Array Value} {T : TypeId} {fz : Nat × Nat} (h : w.heap[b]? = some (.cells cs T fz)) : bufB w b = (cs.toList.getD 1 undef).ownBlock := by unfold bufB; rw [h]
theorem PBv.buf (h : PBv w B b p v l) : bufB w b = v.ownBlock := bufB_of h.blk
theorem PBv.lt (h : PBv w B b p v l) : b < w.heap.size := (Array.getElem?_eq_some_iff.1 h.blk).1
theorem PB.lt (h : PB w B b l) : b < w.heap.size := by obtain ⟨p, v, h⟩ := h; exact h.lt
theorem PB.le (h : PB w B b l) : B ≤ b := by obtain ⟨p, v, h⟩ := h; exact h.le
theorem PB.leB (h : PB w B b l) : B ≤ w.heap.size := Nat.le_of_lt (Nat.lt_of_le_of_lt h.le h.lt)
theorem PB.bufB_ge (h : PB w B b l) (hj : bufB w b = some j) : B ≤ j ∧ j < w.heap.size := by
  obtain ⟨p, v, h⟩ := h
  rw [h.buf] at hj
  exact h.own.lt j hj
theorem PMov.refl (B b : Nat) (w : World) : PMov B b w w := ⟨Below.refl _ _, fun _ _ _ _ => rfl, fun _ _ h => h⟩
theorem PMov.trans (h : PMov B b w w') (h2 : PMov B b w' w2) : PMov B b w w2 := by
  have hs := h.bel.size
  refine ⟨h.bel.trans h2.bel, fun j hj hb hn => ?_, fun j hj hn => h.buf j hj (h2.buf j (by omega) hn)⟩
  rw [h2.keep j (by omega) hb (fun e => hn (h.buf j hj e)), h.keep j hj hb hn]
theorem PMov.of (hB : B ≤ w.heap.size) (hb : b < w.heap.size) (h : Below w.heap.size w w') : PMov B b w w' := by
  have e : bufB w' b = bufB w b := by unfold bufB; rw [h.block b hb]
  exact ⟨h.mono hB, fun j hj _ _ => h.block j hj, fun j _ hn => by rw [← e]; exact hn⟩
theorem PB.below (h : PB w B b l) (hk : Below w.heap.size w w') : PB w' B b l := by
  obtain ⟨p, v, h⟩ := h
  refine ⟨p, v, h.le, (hk.block b h.lt).trans h.blk, ⟨h.own.1, ?_⟩, h.ne, h.adr, h.nil⟩
  rcases h.own.2 with h0 | ⟨g, cap, cur, hv, hg, hh, r⟩
  · exact .inl h0
  · exact .inr ⟨g, cap, cur, hv, hg, (hk.block g (Array.getElem?_eq_some_iff.1 hh).1).trans hh, r⟩
/-- A store elsewhere, in a block of the call's own that is neither the printer nor its buffer. -/
theorem PB.oth {g : Nat} (h : PB w B b l) (ho : Oth g w w') (hg : g ≠ b) (hn : bufB w b ≠ some g) : PB w' B b l := by
  obtain ⟨p, v, h⟩ := h
  refine ⟨p, v, h.le, (ho b (Ne.symm hg)).trans h.blk, ⟨h.own.1, ?_⟩, h.ne, h.adr, h.nil⟩
  rcases h.own.2 with h0 | ⟨k, cap, cur, hv, hk, hh, r⟩
  · exact .inl h0
  · refine .inr ⟨k, cap, cur, hv, hk, (ho k ?_).trans hh, r⟩
    rintro rfl
    rw [h.buf, hv] at hn
    exact hn rfl
/-- A block of the call's own that writing to the printer doesn't touch. -/
def Free (w : World) (b g : Nat) : Prop := g < w.heap.size ∧ g ≠ b ∧ bufB w b ≠ some g
theorem Free.mov {g : Nat} (h : Free w b g) (hm : PMov B b w w') : Free w' b g ∧ w'.heap[g]? = w.heap[g]? :=
  ⟨⟨Nat.lt_of_lt_of_le h.1 hm.bel.size, h.2.1, fun e => h.2.2 (hm.buf g h.1 e)⟩, hm.keep g h.1 h.2.1 h.2.2⟩
theorem free_new {l : List UInt8} (h : PB w B b l) (hk : Below w.heap.size w w') (hs : w'.heap.size = w.heap.size + 1) : Free w' b w.heap.size := by
  have e : bufB w' b = bufB w b := by unfold bufB; rw [hk.block b h.lt]
  refine ⟨by omega, by have := h.lt; omega, fun hn => ?_⟩
  rw [e] at hn
  have := (h.bufB_ge hn).2
  omega
theorem Sh.Var.free_mov {P : Program} {α : Type} {σ : Sh P α} {g : Nat} {x : α} (h : σ.Var w g x) (hf : Free w b g) (hm : PMov B b w w') : σ.Var w' g x :=
  ⟨fun j u hu => (World.cell?_of_block (a := ⟨g, 0 + j, none⟩) (hf.mov hm).2).trans (h.1 j u hu), fun j hj => ⟨by rw [World.cell?_of_block (a := ⟨g, 0 + j, none⟩) (hf.mov hm).2]; exact (h.2 j hj).1, by rw [World.frozen?_of_block (a := ⟨g, 0 + j, none⟩) (hf.mov hm).2]; exact (h.2 j hj).2⟩⟩
end

theorem pb_size : (Tryz.prog.info? 75).map (·.size) = some 2 := by kernel_rfl
theorem pb_lies : liesAt Tryz.prog Tryz.prog.depth 77 (2 / Tryz.prog.cellsOf 77) 0 75 1 = true := by kernel_rfl
theorem pb_byte : (Tryz.prog.info? 5).map (fun i => (i.zero, i.size, i.bytes)) = some (some (.int .u8 0), 1, 1) := by kernel_rfl
theorem pb_ne : 77 ≠ 5 := by decide

/-! ### A string behind bytes of the call's own: where they lie then -/
theorem append_str {P : Program} (w : World) (base : Nat) (t u ty e : TypeId) (i : TypeInfo) (ht : P.underlying t = some (.slice e)) (hu : P.underlying u = some .string) (hi : P.info? e = some i) (hz : i.zero = some (.int .u8 0))
    (hsize : i.size = 1) (hby : i.bytes = 1) (v : Value) (n : Nat) (xs : List Value) (hown : w.ownsRow base e 1 v n xs) (s : ByteArray) (hb : n + s.size ≤ 1099511627776) (hbase : base ≤ w.heap.size) :
    ∃ v' w', (Builtin.append_ #[t, u] ty #[v, .string s]).run P w = .ok v' w' ∧ w'.ownsRow base e 1 v' (n + s.size) (xs ++ Lib.strCells s) ∧ w.grownBy w' v.ownBlock ∧ (v' = .slice none 0 0 ↔ v = .slice none 0 0 ∧ s.size = 0) ∧
      ∀ k, v'.ownBlock = some k → v.ownBlock = some k ∨ w.heap.size ≤ k := by
  obtain ⟨v', w', h1, h2, h3, h4⟩ := Lib.run_append_own_string w base t u ty e i ht hu hi hz hsize hby v n xs hown s (by unfold maxLen; omega) (by omega) hbase
  refine ⟨v', w', h1, h2, h3, h4, fun k hk => ?_⟩
  rcases hown.2 with ⟨rfl, rfl⟩ | ⟨g, cap, cur, rfl, hbg, hg, hnc, hcm, hcs, htake⟩
  · right
    have hx : xs = [] := List.eq_nil_of_length_eq_zero (by simpa using hown.1)
    subst hx
    obtain ⟨v2, w2, k1, k2, _, _⟩ := Lib.run_append_own_string w w.heap.size t u ty e i ht hu hi hz hsize hby (.slice none 0 0) 0 [] (World.ownsRow_nil _ _ _ _) s (by unfold maxLen; omega) (by omega) (Nat.le_refl _)
    rw [h1] at k1
    injection k1 with e1 e2
    subst e1 e2
    exact (k2.lt k hk).1
  · have hxl : xs.length = n := by simpa using hown.1
    have hcs' : cur.size = cap := by simpa using hcs
    by_cases hroom : n + s.size ≤ cap
    · left
      have hr := Lib.run_append_room_string (P := P) w t u ty e i ht hu hi hsize g n cap cur hg s hroom (by omega)
      rw [h1] at hr
      injection hr with e1 e2
      subst e1
      exact hk
    · right
      have hr := Lib.run_append_grow_string (P := P) w t u ty e i (.int .u8 0) ht hu hi hz ⟨g, 0, none⟩ n cap xs (by rw [hsize]; simpa using hxl) (hown.cells (g := g) rfl) s (by omega) (by omega) (by rw [hby]; exact growslice_fits (by omega) (by omega))
      rw [h1] at hr
      injection hr with e1 e2
      subst e1
      have hk : some w.heap.size = some k := hk
      injection hk with hk
      omega
theorem wp_append_str {P : Program} {w : World} {ops : Array Oper} {rest : List Oper} {o : Oper} {a : Act} {Q : Exit → Act → World → Prop} (hgd : o.guard = none) (sl x : Operand) (t u : TypeId)
    (ho : o.op = .call { callee := .builtin .append, args := #[sl, x], argTypes := #[t, u] })
    (base : Nat) (e : TypeId) (i : TypeInfo) (ht : P.underlying t = some (.slice e)) (hu : P.underlying u = some .string) (hi : P.info? e = some i) (hz : i.zero = some (.int .u8 0)) (hsize : i.size = 1) (hby : i.bytes = 1)
    (v : Value) (n : Nat) (xs : List Value) (hs : a.eval sl = v) (hown : w.ownsRow base e 1 v n xs) (s : ByteArray) (hx : a.eval x = .string s) (hb : n + s.size ≤ 1099511627776) (hbase : base ≤ w.heap.size)
    (h : ∀ v' w', w'.ownsRow base e 1 v' (n + s.size) (xs ++ Lib.strCells s) → w.grownBy w' v.ownBlock → (v' = .slice none 0 0 ↔ v = .slice none 0 0 ∧ s.size = 0) → (∀ k, v'.ownBlock = some k → v.ownBlock = some k ∨ w.heap.size ≤ k) → wpList P ops Q rest (a.put o.dst v') w') : wpList P ops Q (o :: rest) a w := by
  refine wpList_plain hgd fun K hK => ?_
  obtain ⟨v', w', hr, h2, h3, h4, h5⟩ := append_str (P := P) w base t u o.type e i ht hu hi hz hsize hby v n xs hown s hb hbase
  unfold Oper.wp execOp
  simp only [ho, resolve, invoke, builtin, Sem.run_bind, Sem.run_pure, Result.andThen_ok, List.map_toArray, List.map_cons, List.map_nil, hs, hx, hr]
  exact hK _ _ (h v' w' h2 h3 h4 h5)

section
variable {w : World} {B b : Nat} {p v : Value} {l : List UInt8}
/-- A fresh printer. -/
theorem pb_new (w : World) : PB (w.alloc (.cells #[.pointer none, .slice none 0 0] 77)) w.heap.size w.heap.size [] :=
  ⟨_, _, Nat.le_refl _, heap_alloc_new w _, World.ownsRow_nil _ _ _ _, by simp [Value.ownBlock], .inl rfl, fun _ => rfl⟩
theorem pb_cell0 (h : PBv w B b p v l) : w.cell? ⟨b, 0, none⟩ = some p := by simp [World.cell?, h.blk]
theorem pb_cell1 (h : PBv w B b p v l) : w.cell? ⟨b, 1, none⟩ = some v := by simp [World.cell?, h.blk]
theorem pb_free (h : PBv w B b p v l) (j : Nat) : w.frozen? ⟨b, j, none⟩ = false := by simp [World.frozen?, h.blk]
theorem pb_shape (h : PBv w B b p v l) : w.shape? b = some (77, 2) := by simp [World.shape?, h.blk]

/-- It notes its own address, and holds what it held. -/
theorem PBv.used (h : PBv w B b p v l) : PBv (w.setCell ⟨b, 0, none⟩ (.pointer (some ⟨b, 0, none⟩))) B b (.pointer (some ⟨b, 0, none⟩)) v l := by
  refine ⟨h.le, ?_, ⟨h.own.1, ?_⟩, h.ne, .inr rfl, h.nil⟩
  · have := h.blk
    simp [World.setCell, Array.getElem?_modify, this]
  rcases h.own.2 with h0 | ⟨g, cap, cur, hv, hg, hh, r⟩
  · exact .inl h0
  · refine .inr ⟨g, cap, cur, hv, hg, ?_, r⟩
    rw [Below.heap_setCell _ _ _ _ (by rintro rfl; exact h.ne (by rw [hv]; rfl))]
    exact hh
theorem mov_set (h : PBv w B b p v l) (j : Nat) (u v' : Value) (e : (w.setCell ⟨b, j, none⟩ u).heap[b]? = some (.cells #[p, v'] 77 (0, 0))) (hv : v'.ownBlock = v.ownBlock) : PMov B b w (w.setCell ⟨b, j, none⟩ u) :=
  ⟨(Below.refl _ _).setCell (p := ⟨b, j, none⟩) h.le u, fun k _ hk _ => Below.heap_setCell _ _ _ _ hk, fun k _ hn => by rw [bufB_of e] at hn; rw [h.buf, ← hv]; exact hn⟩

set_option maxRecDepth 100000 in
theorem check_p (h : PBv w B b p v l) : Calls Tryz.prog 88 #[.pointer (some ⟨b, 0, none⟩)] w fun e w' => e = .returned (.tuple #[]) ∧ PBv w' B b (.pointer (some ⟨b, 0, none⟩)) v l ∧ PMov B b w w' := by
  obtain ⟨j, hj, hjs⟩ := Option.map_eq_some_iff.1 pb_size
  have h0 := pb_cell0 h
  have hfz := pb_free h 0
  have hsh := pb_shape h
  have H := hid h
  rcases h.adr with rfl | rfl
  · clear h
    go_enter Tryz.func88, Tryz.ntmps88
    go_wp2
    rw [Lib.run_to_unsafe w ⟨b, 0, none⟩ Tryz.underlying73 Tryz.underlying136 hj (by rw [hjs]; decide) hsh (Nat.zero_lt_succ 1)]
    simp only [Result.andThen]
    rw [Oper.upon_value]
    go_wp2
    rw [run_callFunc_extern Tryz.func105 (by kernel_rfl) (by kernel_rfl) (by kernel_rfl) (e := Extern.AbiNoEscape.same) (by kernel_rfl)]
    rw [Lib.run_noEscape]
    simp only [Result.andThen]
    rw [Oper.upon_value]
    go_wp2
    rw [Lib.run_from_unsafe w ⟨b, 0, none⟩ Tryz.underlying136 Tryz.underlying73 hj hsh pb_lies]
    simp only [Result.andThen]
    rw [Oper.upon_value]
    go_wp2
    go_end0
    refine ⟨rfl, H.out.used, ?_⟩
    have hu := H.out.used
    exact ⟨(Below.refl _ _).setCell (p := ⟨b, 0, none⟩) H.out.le _, fun k _ hk _ => Below.heap_setCell _ _ _ _ hk, fun k _ hn => by rw [hu.buf] at hn; rw [H.out.buf]; exact hn⟩
  · clear h
    go_enter Tryz.func88, Tryz.ntmps88
    go_wp2
    rw [Lib.run_neq_ptr_same w _ Tryz.underlying73 hj]
    go_wp2
    go_end0
    exact ⟨rfl, H.out, PMov.refl _ _ _⟩

theorem bA_cells (s : List UInt8) : Lib.strCells (bA s) = Lib.byteCells s := by rw [Lib.strCells_eq]; rfl
set_option maxHeartbeats 1000000 in
set_option maxRecDepth 100000 in
theorem wstr_any (s : List UInt8) (h : PB w B b l) (hlen : l.length + s.length ≤ 1099511627776) :
    Calls Tryz.prog 71 #[.pointer (some ⟨b, 0, none⟩), .string (bA s)] w fun e w' => e = .returned (.tuple #[.int .i64 s.length, .nilIface]) ∧ PB w' B b (l ++ s) ∧ PMov B b w w' := by
  obtain ⟨i0, hi, hz⟩ := Option.map_eq_some_iff.1 pb_byte
  have hz0 : i0.zero = some (.int .u8 0) := by injection hz
  have hz1 : i0.size = 1 := by injection hz with _ hz; injection hz
  have hz2 : i0.bytes = 1 := by injection hz with _ hz; injection hz
  obtain ⟨p, v, h⟩ := h
  have HC := hid (check_p h)
  have HL := hid hlen
  have HZ := hid (show (bA s).size = s.length from bA_size s)
  clear h hz hlen
  go_enter Tryz.func71, Tryz.ntmps71
  go_wp2_with (go_at_call 88; refine HC.out.mono ?_)
  rintro e w1 ⟨rfl, h1, m1⟩
  have H1 := hid h1
  have M1 := hid m1
  have c1 := pb_cell1 h1
  have hsz : (bA s).size = s.length := HZ.out
  clear h1 m1
  go_wp2_with (at_builtin; refine wp_append_str rfl _ _ 54 9 rfl B 5 i0 Tryz.underlying54 Tryz.underlying9 hi hz0 hz1 hz2 _ _ _ rfl H1.out.own (bA s) rfl ?c4 ?c5 ?_)
  case c4 => have := HL.out; omega
  case c5 => have := PB.leB ⟨_, _, H1.out⟩; omega
  intro v' w2 hown' hgrow hnil hblk
  have hb2 : w2.heap[b]? = some (.cells #[.pointer (some ⟨b, 0, none⟩), v] 77 (0, 0)) := by
    rw [hgrow.block b H1.out.lt (fun e => H1.out.ne e.symm)]
    exact H1.out.blk
  have d1 : w2.cell? ⟨b, 1, none⟩ = some v := by simp [World.cell?, hb2]
  have f1 : w2.frozen? ⟨b, 1, none⟩ = false := by simp [World.frozen?, hb2]
  have hne : v'.ownBlock ≠ some b := Lib.ownBlock_ne hown' hb2 pb_ne
  have hw := hown'
  have HO := hid (And.intro hown' (And.intro hgrow (And.intro hnil (And.intro hb2 (And.intro hne hblk)))))
  clear hown' hgrow hnil hb2 hne hblk
  obtain ⟨ao, n', cap, rfl⟩ : ∃ ao n' cap, v' = .slice ao n' cap := by
    rcases hw.2 with ⟨hv, _⟩ | ⟨g, cap, cur, hv, _⟩
    · exact ⟨_, _, _, hv⟩
    · exact ⟨_, _, _, hv⟩
  clear hw hsz
  go_wp2
  go_ret2
  obtain ⟨hown', hgrow, hnil, hb2, hne, hblk⟩ := HO.out
  have hsz := HZ.out
  have hbl : w2.heap.size = (w2.setCell ⟨b, 1, none⟩ (.slice ao n' cap)).heap.size := by simp [World.setCell]
  have hnew : PBv (w2.setCell ⟨b, 1, none⟩ (.slice ao n' cap)) B b (.pointer (some ⟨b, 0, none⟩)) (.slice ao n' cap) (l ++ s) := by
    refine ⟨H1.out.le, ?_, ⟨?_, ?_⟩, hne, .inr rfl, fun hz => ?_⟩
    · simp [World.setCell, Array.getElem?_modify, hb2]
    · simp [Lib.byteCells]
    · have h2 := hown'.2
      rw [bA_cells] at h2
      rw [show Lib.byteCells (l ++ s) = Lib.byteCells l ++ Lib.byteCells s from Lib.byteCells_append _ _, List.length_append]
      rcases h2 with h0 | ⟨g, cap', cur, hv, hg, hh, r⟩
      · exact .inl h0
      · refine .inr ⟨g, cap', cur, hv, hg, ?_, r⟩
        rw [Below.heap_setCell _ _ _ _ (by rintro rfl; exact hne (by rw [hv]; rfl))]
        exact hh
    · obtain ⟨hl, hs⟩ := List.append_eq_nil_iff.1 hz
      exact hnil.2 ⟨H1.out.nil hl, hs⟩
  refine ⟨rfl, ⟨_, _, hnew⟩, M1.out.trans ⟨?_, fun k hk hkb hkn => ?_, fun k hk hn => ?_⟩⟩
  · exact ((Below.refl _ _).grown hgrow (PB.leB ⟨_, _, H1.out⟩) (fun k hk => (H1.out.own.lt k hk).1)).setCell (p := ⟨b, 1, none⟩) H1.out.le _
  · rw [Below.heap_setCell _ _ _ _ hkb]
    exact hgrow.block k hk (fun e => hkn (by rw [H1.out.buf]; exact e.symm))
  · rw [hnew.buf] at hn
    rw [H1.out.buf]
    rcases hblk k hn with h | h
    · exact h
    · exact absurd hk (by omega)

set_option maxRecDepth 100000 in
theorem plen_any (h : PB w B b l) : Calls Tryz.prog 50 #[.pointer (some ⟨b, 0, none⟩)] w fun e w' => e = .returned (.int .i64 l.length) ∧ w' = w := by
  obtain ⟨p, v, h⟩ := h
  obtain ⟨ao, cap, rfl⟩ : ∃ ao cap, v = .slice ao l.length cap := by
    rcases h.own.2 with ⟨hv, h0⟩ | ⟨g, cap, cur, hv, _⟩
    · exact ⟨none, 0, by rw [hv, h0]⟩
    · exact ⟨_, _, hv⟩
  have c1 := pb_cell1 h
  clear h
  go_enter Tryz.func50, Tryz.ntmps50
  go_wp2
  go_ret
  exact ⟨rfl, rfl⟩
theorem pb_cellB : Tryz.prog.cellsOf 5 = 1 := by kernel_rfl
set_option maxHeartbeats 1000000 in
set_option maxRecDepth 100000 in
theorem pstr_some (h : PBv w B b p v l) (h0 : l ≠ []) : Calls Tryz.prog 51 #[.pointer (some ⟨b, 0, none⟩)] w fun e w' => e = .returned (.string (bA l)) ∧ Below B w w' := by
  have hl0 : l.length ≠ 0 := by simpa using h0
  have hown := h.own
  obtain ⟨g, cap, cur, rfl, hbg, hg, hnc, hcm, hcs, htake⟩ : ∃ g cap cur, v = .slice (some ⟨g, 0, none⟩) l.length cap ∧ B ≤ g ∧ w.heap[g]? = some (.cells cur 5 (0, 0)) ∧ l.length ≤ cap ∧ cap ≤ maxLen ∧ cur.size = cap * 1 ∧ cur.toList.take (l.length * 1) = Lib.byteCells l := by
    rcases hown.2 with ⟨_, hz⟩ | ⟨g, cap, cur, hv, r⟩
    · exact absurd hz hl0
    · exact ⟨g, cap, cur, hv, r⟩
  have c1 : w.drew.cell? ⟨b, 1, none⟩ = some (.slice (some ⟨g, 0, none⟩) l.length cap) := by show w.cell? _ = _; exact pb_cell1 h
  have hSD : (Builtin.unsafeSliceData_ #[54] 111 #[.slice (some ⟨g, 0, none⟩) l.length cap]).run Tryz.prog w.drew = .ok (.pointer (some ⟨g, 0, none⟩)) w.drew :=
    Lib.run_unsafeSliceData_row _ _ _ _ _ _ (by omega)
  have hUS : (Builtin.unsafeString_ #[111, 3] 9 #[.pointer (some ⟨g, 0, none⟩), .int .i64 l.length]).run Tryz.prog w.drew = .ok (.string (bA l)) (w.drew.freeze ⟨g, 0, none⟩ l.length) := by
    refine Lib.run_unsafeString_row w.drew 111 3 9 5 Tryz.underlying111 pb_cellB g cur.size (by have hg' : w.drew.heap[g]? = some (.cells cur 5 (0, 0)) := hg; simp [World.shape?, hg']) l h0 (by omega) (by unfold maxLen at hcm; omega) ?_
    intro j x hx
    exact hown.cells (g := g) rfl j (.int .u8 x.toNat) (by simp [Lib.byteCells, hx])
  clear hown hg hcm hcs htake hnc h
  go_enter Tryz.func51, Tryz.ntmps51
  have mixed : Tryz.prog.follows Departure.mixedOrders = true := by kernel_rfl
  go_wp2
  go_region_o
  all_goals (go_wp2; go_ret; exact ⟨rfl, Lib.below_freeze (Below.drew (Below.refl B w)) (p := ⟨g, 0, none⟩) hbg _⟩)
set_option maxHeartbeats 1000000 in
set_option maxRecDepth 100000 in
theorem pstr_none (h : PBv w B b p (.slice none 0 0) []) : Calls Tryz.prog 51 #[.pointer (some ⟨b, 0, none⟩)] w fun e w' => e = .returned (.string ⟨#[]⟩) ∧ Below B w w' := by
  have hUS : ∀ (W : World) (q : Option Addr), (Builtin.unsafeString_ #[111, 3] 9 #[.pointer q, .int .i64 0]).run Tryz.prog W = .ok (.string .empty) W := fun W q => Lib.run_unsafeString_none W _ _ _ q
  have c1 : w.drew.cell? ⟨b, 1, none⟩ = some (.slice none 0 0) := by show w.cell? _ = _; exact pb_cell1 h
  have hSD : (Builtin.unsafeSliceData_ #[54] 111 #[.slice none 0 0]).run Tryz.prog w.drew = .ok (.pointer none) w.drew := rfl
  clear h
  go_enter Tryz.func51, Tryz.ntmps51
  have mixed : Tryz.prog.follows Departure.mixedOrders = true := by kernel_rfl
  go_wp2
  go_region_o
  all_goals (go_wp2; go_ret; exact ⟨rfl, Below.drew (Below.refl B w)⟩)
theorem pstr_any (h : PB w B b l) : Calls Tryz.prog 51 #[.pointer (some ⟨b, 0, none⟩)] w fun e w' => e = .returned (.string (bA l)) ∧ Below B w w' := by
  obtain ⟨p, v, h⟩ := h
  cases l with
  | nil =>
    obtain rfl := h.nil rfl
    exact pstr_none h
  | cons c r => exact pstr_some h (by simp)
end
end Go.Proofs.YtkfnkieljcipnaaGreatDoor
