/-
  LI: The contract of lex.Cut: what a text is cut into, or what is wrong, and where (of any text); under: the tables hold what the program lays (LaidW).
  LT: Contracts of lex.written and lex.Text: any token's text, or that it is none (P14.3; texts of at most 2^40 bytes); under: the tables hold what the program lays (LaidW).
  LU: Plain words: a piece that is followed by what is no letter or digit; what numbers' and times' texts are cut into. No model's run; no condition.
  PP: Plain words of the parser, without the model's runs: forests of statements, how many and how deep they are, all of them flat, and what tokens are read as; and what follows of them alone. No condition.
-/
import Derived.Test.YtkfnkieljcipnaaGreatDoorK3
import Derived.Test.YtkfnkieljcipnaaGreatDoorK1
/-! LI -/
namespace Go.Proofs.YtkfnkieljcipnaaGreatDoor
open Go Go.RowKit Go.Joins

/-- What Cut tells. -/
def CutPost (s : ByteArray) (w : World) (e : Ending) (w' : World) : Prop :=
  Below w.heap.size w w' ∧
  ((65536 < s.size ∧ e = .returned (.tuple #[.slice none 0 0, .slice none 0 0, plV firstP, .int .i64 6])) ∨
   (s.size ≤ 65536 ∧ ∃ p f, (cutL s.data.toList false firstP).2 = some (p, f) ∧ e = .returned (.tuple #[.slice none 0 0, .slice none 0 0, plV p, .int .i64 (f : Nat)])) ∨
   (s.size ≤ 65536 ∧ (cutL s.data.toList false firstP).2 = none ∧ ∃ n A c A2 c2, (cutL s.data.toList false firstP).1.length = n ∧ n ≤ s.size ∧ e = .returned (.tuple #[.slice A n c, .slice A2 n c2, plV ⟨0, 0⟩, .int .i64 0]) ∧
     tkS.Ow w' w.heap.size A n c ((cutL s.data.toList false firstP).1.map (·.1)) ∧ plS.Ow w' w.heap.size A2 n c2 ((cutL s.data.toList false firstP).1.map (·.2))))

/-- What lies where, in Cut's loop. -/
structure CS (s : ByteArray) (k g4 g8 kb : Nat) (w0 w : World) (pos : Nat) (here : Pl) (A : Option Addr) (n c : Nat) (ts : List Tk) (A2 : Option Addr) (c2 : Nat) (ps : List Pl) : Prop where
  it : w.heap[k]? = some (.stringIter s pos)
  h8 : plS.Var w g8 here
  h4 : plS.Var w g4 ⟨0, 0⟩
  ot : tkS.Ow w kb A n c ts
  op : plS.Ow w kb A2 n c2 ps
  bl : Below w0.heap.size w0 w
  le : kb ≤ w.heap.size
  o4 : w0.heap.size ≤ g4
  o48 : g4 < g8
  o8 : g8 < k
  ok : k < kb
section
variable {s : ByteArray} {k g4 g8 kb : Nat} {w0 w w' : World} {pos : Nat} {here : Pl} {A : Option Addr} {n c : Nat} {ts : List Tk} {A2 : Option Addr} {c2 : Nat} {ps : List Pl}
theorem CS.keep (h : CS s k g4 g8 kb w0 w pos here A n c ts A2 c2 ps) (hb : Below w.heap.size w w') : CS s k g4 g8 kb w0 w' pos here A n c ts A2 c2 ps :=
  ⟨(hb.block k ((Array.getElem?_eq_some_iff.1 h.it).1)).trans h.it, h.h8.keep hb, h.h4.keep hb, h.ot.below hb, h.op.below hb, h.bl.trans (hb.mono h.bl.size), Nat.le_trans h.le hb.size, h.o4, h.o48, h.o8, h.ok⟩
theorem CS.next (h : CS s k g4 g8 kb w0 w pos here A n c ts A2 c2 ps) (pos2 : Nat) : CS s k g4 g8 kb w0 (w.iterAt k s pos2) pos2 here A n c ts A2 c2 ps := by
  have ob : Oth k w (w.iterAt k s pos2) := fun j hj => Lib.iterAt_other w k j s pos2 hj
  have h1 := h.o48; have h2 := h.o8; have h3 := h.ok; have h4 := h.o4
  exact ⟨Lib.iterAt_heap w k s pos pos2 h.it, h.h8.other ob (by omega), h.h4.other ob (by omega), h.ot.oth ob (by omega), h.op.oth ob (by omega), h.bl.trans (Lib.below_iterAt (Below.refl w0.heap.size w) (k := k) (by omega) s pos2), by rw [Lib.iterAt_size]; exact h.le, h.o4, h.o48, h.o8, h.ok⟩
theorem CS.set (h : CS s k g4 g8 kb w0 w pos here A n c ts A2 c2 ps) (p : Pl) (h8 : plS.Var w' g8 p) (hb : Below g8 w w') (ho : Oth g8 w w') (hs : w'.heap.size = w.heap.size) : CS s k g4 g8 kb w0 w' pos p A n c ts A2 c2 ps := by
  have h1 := h.o48; have h2 := h.o8; have h3 := h.ok; have h4 := h.o4
  exact ⟨(ho k (by omega)).trans h.it, h8, h.h4.other ho (by omega), h.ot.oth ho (by omega), h.op.oth ho (by omega), h.bl.trans (hb.mono (by omega)), by rw [hs]; exact h.le, h.o4, h.o48, h.o8, h.ok⟩
/-- The lists grown: all else stands. -/
theorem CS.grow (h : CS s k g4 g8 kb w0 w pos here A n c ts A2 c2 ps) {A' : Option Addr} {c' : Nat} {t : Tk} {A2' : Option Addr} {c2' : Nat} {p : Pl} (ht : tkS.Ow w' kb A' (n + 1) c' (ts ++ [t])) (hp : plS.Ow w' kb A2' (n + 1) c2' (ps ++ [p])) (hb : Below kb w w') : CS s k g4 g8 kb w0 w' pos here A' (n + 1) c' (ts ++ [t]) A2' c2' (ps ++ [p]) := by
  have h1 := h.o48; have h2 := h.o8; have h3 := h.ok; have h4 := h.o4
  exact ⟨(hb.block k h3).trans h.it, h.h8.below hb (by omega), h.h4.below hb (by omega), ht, hp, h.bl.trans (hb.mono (by omega)), Nat.le_trans h.le hb.size, h.o4, h.o48, h.o8, h.ok⟩
end

/-- Between the two appends: what the region's worlds have in common. -/
structure M1 (kb g13 : Nat) (t : Tk) (w5 w : World) (A : Option Addr) (n c : Nat) (ts : List Tk) (A2 : Option Addr) (n2 c2 : Nat) (ps : List Pl) : Prop where
  bl : Below kb w5 w
  sz : w5.heap.size ≤ w.heap.size
  h13 : tkS.Var w g13 t
  ot : tkS.Ow w kb A n c ts
  op : plS.Ow w kb A2 n2 c2 ps
  le : kb ≤ w5.heap.size
section
variable {kb g13 : Nat} {t : Tk} {w5 w w' : World} {A : Option Addr} {n c : Nat} {ts : List Tk} {A2 : Option Addr} {n2 c2 : Nat} {ps : List Pl}
theorem M1.keep (h : M1 kb g13 t w5 w A n c ts A2 n2 c2 ps) (hb : Below w.heap.size w w') : M1 kb g13 t w5 w' A n c ts A2 n2 c2 ps :=
  ⟨h.bl.trans (hb.mono (Nat.le_trans h.le h.sz)), Nat.le_trans h.sz hb.size, h.h13.keep hb, h.ot.below hb, h.op.below hb, h.le⟩
theorem M1.alloc (h : M1 kb g13 t w5 w A n c ts A2 n2 c2 ps) (o : Obj) : M1 kb g13 t w5 (w.alloc o) A n c ts A2 n2 c2 ps := h.keep ((Below.refl _ _).alloc (Nat.le_refl _) _)
theorem M1.drew (h : M1 kb g13 t w5 w A n c ts A2 n2 c2 ps) : M1 kb g13 t w5 w.drew A n c ts A2 n2 c2 ps := h.keep ((Below.refl _ _).drew)
theorem grow_var {own : Option Nat} (h13 : tkS.Var w g13 t) (hg : w.grownBy w' own) (hne : ∀ j, own = some j → j ≠ g13) : tkS.Var w' g13 t := by
  have e := hg.block g13 h13.lt (fun e => hne g13 e.symm rfl)
  exact ⟨fun j v hv => (World.cell?_of_block (a := ⟨g13, 0 + j, none⟩) e).trans (h13.1 j v hv), fun j hj => ⟨by rw [World.cell?_of_block (a := ⟨g13, 0 + j, none⟩) e]; exact (h13.2 j hj).1, by rw [World.frozen?_of_block (a := ⟨g13, 0 + j, none⟩) e]; exact (h13.2 j hj).2⟩⟩
theorem M1.pushT (h : M1 kb g13 t w5 w A n c ts A2 n2 c2 ps) {A' : Option Addr} {c' : Nat} {x : Tk} (own : tkS.Ow w' kb A' (n + 1) c' (ts ++ [x])) (hg : w.grownBy w' (Value.ownBlock (.slice A n c))) (hne : ∀ j, Value.ownBlock (.slice A n c) = some j → j ≠ g13) : M1 kb g13 t w5 w' A' (n + 1) c' (ts ++ [x]) A2 n2 c2 ps := by
  have hb := Sh.grown_below tkS h.ot (Nat.le_trans h.le h.sz) hg
  exact ⟨h.bl.trans hb, Nat.le_trans h.sz hb.size, grow_var h.h13 hg hne, own, h.op.kept h.ot pl_tk hg, h.le⟩
theorem M1.pushP (h : M1 kb g13 t w5 w A n c ts A2 n2 c2 ps) {A' : Option Addr} {c' : Nat} {x : Pl} (own : plS.Ow w' kb A' (n2 + 1) c' (ps ++ [x])) (hg : w.grownBy w' (Value.ownBlock (.slice A2 n2 c2))) (hne : ∀ j, Value.ownBlock (.slice A2 n2 c2) = some j → j ≠ g13) : M1 kb g13 t w5 w' A n c ts A' (n2 + 1) c' (ps ++ [x]) := by
  have hb := Sh.grown_below plS h.op (Nat.le_trans h.le h.sz) hg
  exact ⟨h.bl.trans hb, Nat.le_trans h.sz hb.size, grow_var h.h13 hg hne, h.ot.kept h.op tk_pl hg, own, h.le⟩
theorem M1.row (_ : M1 kb g13 t w5 w A n c ts A2 n2 c2 ps) {b : Nat} {cs : List Value} (hr : w.rangeAt b 0 cs) (hb : b < w.heap.size) (hg : w.grownBy w' (Value.ownBlock (.slice A n c))) (hne : ∀ j, Value.ownBlock (.slice A n c) = some j → j ≠ b) : w'.rangeAt b 0 cs := by
  have e := hg.block b hb (fun e => hne b e.symm rfl)
  exact fun j v hv => (World.cell?_of_block (a := ⟨b, 0 + j, none⟩) e).trans (hr j v hv)
theorem M1.row_then {G : Prop} {b : Nat} {cs : List Value} (h : M1 kb g13 t w5 w A n c ts A2 n2 c2 ps) (hg : w.grownBy w' (Value.ownBlock (.slice A n c))) (hne : ∀ j, Value.ownBlock (.slice A n c) = some j → j ≠ b) (hr : w.rangeAt b 0 cs) (hb : b < w.heap.size) (k : w'.rangeAt b 0 cs → G) : G := k (h.row hr hb hg hne)
theorem range_new' (w : World) (cs : List Value) (t : TypeId) (b : Nat) (hb : b = w.heap.size) : (w.alloc (.cells cs.toArray t)).rangeAt b 0 cs := by
  subst hb; exact range_new w cs t
end
theorem tok_err (p : List UInt8) (f : Nat) (h : tokF p = .error f) : f ≠ 0 := by
  have hn : ∀ p f, numF p = .error f → f ≠ 0 := by
    intro p f h
    unfold numF at h
    split at h
    · cases h; decide
    split at h
    · cases h; decide
    split at h
    · split at h
      · cases h
      · cases h; decide
    · cases h
  match p with
  | [] => cases h; decide
  | c :: r =>
    unfold tokF at h
    simp only at h
    split at h
    · cases h
    split at h
    · cases h
    split at h
    · cases h; decide
    · exact hn _ _ h

theorem one_stored {w8 w9 : World} {g : Nat} {hr : Pl} (v : plS.Var w8 g hr) (bp : Pl) (hW : w9 = ((w8.setCell ⟨g, 0, none⟩ (.int .i64 bp.line)).setCell ⟨g, 1, none⟩ (.int .i64 bp.col)).drew) :
    plS.Var w9 g bp ∧ ∀ B, B ≤ g → Below B w8 w9 := by
  have hW : w9 = (w8.setCells g 0 (encP bp)).drew := hW
  subst hW
  exact ⟨(Sh.var_stored (σ := plS) v.2 bp).drew, fun B h => ((setCells_oth g (encP bp) 0 w8).1.mono h).drew⟩

set_option maxRecDepth 100000 in
theorem cut_long (s : ByteArray) (w : World) (hL : LaidW w) (hlong : 65536 < s.size) (hs : s.size ≤ 9223372036854775807) : Calls Tryz.prog 35 #[.string s] w (CutPost s w) := by
  have hl : (65536 : Int) < s.size := by omega
  obtain ⟨f0, f1, hfs⟩ := hL.firstc
  clear hL
  go_enter Tryz.func35, Tryz.ntmps35
  go_wp2_with (first
    | (refine Sh.wp_al plS rfl rfl ?_; intro w1 q1 b1 s1; have f0 : w1.cell? ⟨0, 0, none⟩ = some (.int .i64 1) := (b1.cell (p := ⟨0, 0, none⟩) hfs).trans f0; have f1 : w1.cell? ⟨0, 1, none⟩ = some (.int .i64 1) := (b1.cell (p := ⟨0, 1, none⟩) hfs).trans f1; have hf1 : 0 < w1.heap.size := Nat.lt_of_lt_of_le hfs b1.size; have Q1 := hid q1; have B1 := hid b1; have S1 := hid s1.out; clear q1 b1 s1))
  have hgn : ¬ 0 = w.heap.size := by omega
  have hgn2 : ¬ w.heap.size = 0 := by omega
  have d0 : w1.cell? ⟨w.heap.size, 0, none⟩ = some (.int .i64 0) := Q1.out.cell (j := 0) rfl
  have d1 : w1.cell? ⟨w.heap.size, 1, none⟩ = some (.int .i64 0) := Q1.out.cell (j := 1) rfl
  have e0 : w1.frozen? ⟨w.heap.size, 0, none⟩ = false := Q1.out.free (j := 0) (by decide)
  have e1 : w1.frozen? ⟨w.heap.size, 1, none⟩ = false := Q1.out.free (j := 1) (by decide)
  go_region_held3 (fun w' => w'.cell? ⟨0, 0, none⟩ = some (.int .i64 1) ∧ w'.cell? ⟨0, 1, none⟩ = some (.int .i64 1)) (first | with_reducible exact ⟨f0, f1⟩ | go_keep) (first | fail)
  all_goals
    obtain ⟨w9, hW⟩ : ∃ w9, w9 = ((w1.setCell ⟨w.heap.size, 0, none⟩ (.int .i64 1)).setCell ⟨w.heap.size, 1, none⟩ (.int .i64 1)).drew := ⟨_, rfl⟩
    obtain ⟨z6, z7⟩ := one_stored Q1.out firstP hW
    rw [← hW]
    clear hW f0 f1 d0 d1 e0 e1
    go_wp2_with fail
    exact bodyPost_ret (results_11p1 Tryz.results35 _ rfl z6) rfl ⟨B1.out.trans (z7 _ (Nat.le_refl _)), .inl ⟨hlong, rfl⟩⟩

set_option maxHeartbeats 4000000 in
set_option maxRecDepth 100000 in
theorem cut_short (s : ByteArray) (w : World) (hL : LaidW w) (hs : s.size ≤ 65536) : Calls Tryz.prog 35 #[.string s] w (CutPost s w) := by
  have hl : ¬ (65536 : Int) < s.size := by omega
  obtain ⟨f0, f1, hfs⟩ := hL.firstc
  have HL := hid hL
  clear hL
  go_enter Tryz.func35, Tryz.ntmps35
  go_wp2_with (first
    | (refine Sh.wp_sv plS (x := firstP) rfl (.tmp 8) (.tmp 19) rfl rfl (by rfl) q2 ?_; intro w3 q3 b3 o3 s3; have v3 := v2.other o3 (by have := N12.out; omega); have B3 := hid (B2.out.trans (b3.mono B1.out.size)); have S3 := hid s3.out; clear q2 v2 b3 o3 s3)
    | (refine Sh.wp_al plS rfl rfl ?_; intro w2 q2 b2 s2; have v2 := v1.keep b2; have N12 := hid v1.lt; have B2 := hid (B1.out.trans (b2.mono B1.out.size)); have S2 := hid s2.out; clear v1 b2 s2)
    | (refine Sh.wp_al plS rfl rfl ?_; intro w1 v1 b1 s1; have f0 : w1.cell? ⟨0, 0, none⟩ = some (.int .i64 1) := (b1.cell (p := ⟨0, 0, none⟩) hfs).trans f0; have f1 : w1.cell? ⟨0, 1, none⟩ = some (.int .i64 1) := (b1.cell (p := ⟨0, 1, none⟩) hfs).trans f1; have B1 := hid b1; have S1 := hid s1.out; clear b1 s1))
  have hcs : Hid (CS s w3.heap.size w.heap.size w1.heap.size (w3.heap.size + 1) w (w3.iter s 0) 0 firstP none 0 0 [] none 0 []) := hid (by
    have bI : Below w3.heap.size w3 (w3.iter s 0) := below_iter w3 s 0
    refine ⟨World.iter_heap w3 s 0, q3.keep bI, v3.keep bI, Sh.Ow.nil _ _, Sh.Ow.nil _ _, B3.out.trans (bI.mono B3.out.size), ?_, Nat.le_refl _, N12.out, ?_, Nat.lt_succ_self _⟩
    · show _ ≤ (w3.heap.push _).size
      rw [Array.size_push]; exact Nat.le_refl _
    · have := S2.out; have := S3.out; omega)
  clear f0 f1 hfs q3 v3 N12 S1 S2 S3
  generalize hg8 : w1.heap.size = g8 at *
  generalize hk : w3.heap.size = k at *
  generalize w3.iter s 0 = wi at *
  clear hg8 hk B1 B2 B3
  go_loopw [6, 7, 9, 10] (fun v6 v7 v9 v10 wr => ∃ (pos en : Nat) (rem : Bool) (here : Pl) (acc : List (Tk × Pl)) (n : Nat) (A : Option Addr) (c : Nat) (A2 : Option Addr) (c2 : Nat), v6 = .slice A n c ∧ v7 = .slice A2 n c2 ∧ v9 = .int .i64 (en : Nat) ∧ v10 = .bool rem ∧
    CS s k w.heap.size g8 (k + 1) w wr pos here A n c (acc.map (·.1)) A2 c2 (acc.map (·.2)) ∧ acc.length = n ∧ n ≤ pos ∧ pos ≤ s.size ∧ CI s.data.toList pos en rem here acc) (fun _ _ _ _ wr => s.size - wr.iterPos k)
  case atStart => exact ⟨0, 0, false, firstP, [], 0, none, 0, none, 0, rfl, rfl, rfl, rfl, hcs.out, rfl, Nat.le_refl _, Nat.zero_le _, ci_start _⟩
  case round =>
    obtain ⟨pos, en, rem, here, acc, n, A, c, A2, c2, rfl, rfl, rfl, rfl, hcs, hacc, hn, hp, hci⟩ := hrel
    have S1 := hid hcs
    have HA := hid (And.intro hacc hn)
    have HPU := hid hcs.h8.lt
    by_cases hlt : pos < s.size
    · obtain ⟨ch, r, hd, ht⟩ := drop_cons (l := s.data.toList) (k := pos) (by simpa using hlt)
      have hnx : ∀ ty, (Instr.next (.pointer (some ⟨k, 0, none⟩)) true ty).run Tryz.prog wr = _ := fun ty => Lib.run_next_any_at wr k s pos ty hcs.it hlt
      rw [dec_of, hd] at hnx
      have hex : s.extract pos s.size = bA (ch :: r) := by
        rw [← hd]
        apply ByteArray.ext
        rw [ByteArray.data_extract]
        apply Array.ext'
        rw [Array.toList_extract, List.extract_eq_take_drop]
        show _ = s.data.toList.drop pos
        exact List.take_of_length_le (by rw [List.length_drop]; exact Nat.le_refl _)
      have hle := dec_le ch r
      have hpos := dec_pos (ch :: r)
      have hlen : s.size = pos + (r.length + 1) := by
        have h5 : pos < s.data.toList.length := by simpa using hlt
        have := congrArg List.length hd
        rw [List.length_drop] at this
        simp only [List.length_cons] at this
        have h6 : s.data.toList.length = s.size := rfl
        omega
      have hbd := behind_bound here (dec (ch :: r)).1 pos (dec (ch :: r)).2 hci.2.2.2.1 hci.2.2.2.2.1 hpos
      have hen : en ≤ s.size := hci.1
      have HB := hid (fun w => behind_any here (dec (ch :: r)).1 w (by have := hci.2.2.2.1; omega) (by have := hci.2.2.2.2.1; omega))
      have HK := hid (fun w => by have := broken_any (bA (ch :: r)) w (dec (ch :: r)).1 rfl; rwa [bA_list] at this)
      have w0 := fun h => ci_skip hci hd h
      have w1 := fun hge h => ci_broken hci hge hd h
      have w2 := fun hge hb h10 => ci_next hci hge hd false (cut_line hb h10)
      have w3 := fun hge hb h10 hs => ci_next hci hge hd rem (cut_pass hb h10 hs)
      have w4 := fun hge hb h10 hs h35 => ci_next hci hge hd true (cut_remark hb h10 hs h35)
      have w5 := fun t hge hb h10 hs h35 ht => ci_tok (t := t) hci hge hd hb h10 hs h35 ht
      have w6 := fun e hge hb h10 hs h35 ht => ci_bad (e := e) hci hge hd (cut_bad hb h10 hs h35 ht)
      obtain ⟨p, hpp⟩ : ∃ p, pieceF (ch :: r) = p := ⟨_, rfl⟩
      have HP := hid (fun w => by have := piece_any (bA (ch :: r)) w (by rw [bA_size]; simp; omega); unfold PiecePost at this; rwa [bA_list, hpp] at this)
      have hpl := piece_len (ch :: r)
      rw [hpp] at w5 w6 hpl
      have HT := hid (fun w hL => token_any p w hL (by intro h; have := hpl.2 (by simp); rw [h] at this; simp at this) (by have := hpl.1; simp at this; omega))
      have q2 := (hcs.next (pos + (dec (ch :: r)).2)).h8
      have S2 := hid (hcs.next (pos + (dec (ch :: r)).2))
      clear hci hd ht hcs hacc hn hpp hpl
      generalize brok (ch :: r) = bk at *
      generalize (dec (ch :: r)).1 = x at *
      generalize (dec (ch :: r)).2 = nn at *
      generalize behindP here x = bp at *
      generalize bA (ch :: r) = sr at *
      generalize wr.iterAt k s (pos + nn) = wr2 at *
      have W0 := hid w0
      have W1 := hid w1
      have W2 := hid w2
      have W3 := hid w3
      have W4 := hid w4
      have W5 := hid w5
      have W6 := hid w6
      clear w0 w1 w2 w3 w4 w5 w6
      have hpn : pos + nn ≤ s.size := by omega
      clear hle hlen
      by_cases he : pos < en
      · have hci := hid (W0.out he).2
        obtain rfl : nn = 1 := (W0.out he).1
        have he' : (pos : Int) < (en : Nat) := by omega
        clear W0 W1 W2 W3 W4 W5 W6 HP HT HK hex he
        go_wp2_with (first
          | (refine Sh.wp_sv plS (x := bp) rfl (.tmp 8) (.tmp 80) rfl rfl (by rfl) q8 ?_; intro w9 q9 b9 o9 s9; have S9 := hid (S8.out.set _ q9 b9 o9 s9.out); clear q9 b9 o9 s9)
          | (go_at_call 58; refine (HB.out _).mono ?_; rintro e w8 ⟨rfl, b8⟩; have S8 := hid (S2.out.keep b8); have q8 := S8.out.h8; clear b8)
          | (refine Sh.wp_ld plS rfl (.tmp 8) rfl rfl q2.1 ?_)
          | (go_at_call 55; refine (HK.out _).mono ?_; rintro e w' ⟨rfl, rfl⟩))
        dsimp only [Act.put]
        go_roundw
        case rel => exact ⟨pos + 1, en, rem, bp, acc, n, A, c, A2, c2, rfl, rfl, rfl, rfl, S9.out, HA.out.1, by have := HA.out.2; omega, by omega, hci.out⟩
        case measure =>
          have e1 : w9.iterPos k = pos + 1 := by unfold World.iterPos; rw [S9.out.it]
          have e2 : wr.iterPos k = pos := by unfold World.iterPos; rw [S1.out.it]
          rw [e1, e2]; omega
      have he' : ¬ (pos : Int) < (en : Nat) := by omega
      have hge : en ≤ pos := by omega
      clear W0 he
      cases bk with
      | true =>
        have hci := hid (W1.out hge rfl)
        clear W1 W2 W3 W4 W5 W6 HP HT hge
        have c0 : wr2.cell? ⟨g8, 0, none⟩ = some (.int .i64 here.line) := q2.cell (j := 0) rfl
        have c1 : wr2.cell? ⟨g8, 1, none⟩ = some (.int .i64 here.col) := q2.cell (j := 1) rfl
        have d0 : wr2.cell? ⟨w.heap.size, 0, none⟩ = some (.int .i64 0) := S2.out.h4.cell (j := 0) rfl
        have d1 : wr2.cell? ⟨w.heap.size, 1, none⟩ = some (.int .i64 0) := S2.out.h4.cell (j := 1) rfl
        have e0 : wr2.frozen? ⟨w.heap.size, 0, none⟩ = false := S2.out.h4.free (j := 0) (by decide)
        have e1 : wr2.frozen? ⟨w.heap.size, 1, none⟩ = false := S2.out.h4.free (j := 1) (by decide)
        have hg48 : ¬ g8 = w.heap.size := by have := S2.out.o48; omega
        have hg84 : ¬ w.heap.size = g8 := by omega
        go_wp2_with (first
          | (go_at_call 55; refine (HK.out _).mono ?_; rintro e w' ⟨rfl, e7⟩; rw [e7]; clear e7 w'))
        go_region_held3 (fun w' => w'.cell? ⟨g8, 0, none⟩ = some (.int .i64 here.line) ∧ w'.cell? ⟨g8, 1, none⟩ = some (.int .i64 here.col)) (first | with_reducible exact ⟨c0, c1⟩ | go_keep) (first | fail)
        all_goals
          obtain ⟨w9, hW⟩ : ∃ w9, w9 = ((wr2.setCell ⟨w.heap.size, 0, none⟩ (.int .i64 here.line)).setCell ⟨w.heap.size, 1, none⟩ (.int .i64 here.col)).drew := ⟨_, rfl⟩
          obtain ⟨z6, z7⟩ := one_stored S2.out.h4 here hW
          rw [← hW]
          clear hW c0 c1 d0 d1 e0 e1
          go_wp2_with fail
          exact bodyPost_ret (results_11p1 Tryz.results35 _ rfl z6) rfl ⟨S2.out.bl.trans (z7 _ (Nat.le_refl _)), .inr (.inl ⟨hs, here, 4, hci.out, rfl⟩)⟩
      | false =>
      clear W1
      by_cases h10 : x = 10
      · have hci := hid (W2.out hge rfl h10)
        have h10' : ((x : Int) == 10) = true := beq_iff_eq.2 (by omega)
        clear W2 W3 W4 W5 W6 HP HT hge h10
        go_wp2_with (first
          | (refine Sh.wp_sv plS (x := bp) rfl (.tmp 8) (.tmp 80) rfl rfl (by rfl) q8 ?_; intro w9 q9 b9 o9 s9; have S9 := hid (S8.out.set _ q9 b9 o9 s9.out); clear q9 b9 o9 s9)
          | (go_at_call 58; refine (HB.out _).mono ?_; rintro e w8 ⟨rfl, b8⟩; have S8 := hid (S2.out.keep b8); have q8 := S8.out.h8; clear b8)
          | (refine Sh.wp_ld plS rfl (.tmp 8) rfl rfl q2.1 ?_)
          | (go_at_call 55; refine (HK.out _).mono ?_; rintro e w' ⟨rfl, rfl⟩))
        dsimp only [Act.put]
        go_roundw
        case rel => exact ⟨pos + nn, en, false, bp, acc, n, A, c, A2, c2, rfl, rfl, rfl, rfl, S9.out, HA.out.1, by have := HA.out.2; omega, by omega, hci.out⟩
        case measure =>
          have e1 : w9.iterPos k = pos + nn := by unfold World.iterPos; rw [S9.out.it]
          have e2 : wr.iterPos k = pos := by unfold World.iterPos; rw [S1.out.it]
          rw [e1, e2]; omega
      have h10' : ((x : Int) == 10) = false := beq_eq_false_iff_ne.2 (by omega)
      clear W2
      cases rem with
      | true =>
        have hci := hid (W3.out hge rfl h10 (.inl rfl))
        clear W3 W4 W5 W6 HP HT hge h10
        go_wp2_with (first
          | (refine Sh.wp_sv plS (x := bp) rfl (.tmp 8) (.tmp 80) rfl rfl (by rfl) q8 ?_; intro w9 q9 b9 o9 s9; have S9 := hid (S8.out.set _ q9 b9 o9 s9.out); clear q9 b9 o9 s9)
          | (go_at_call 58; refine (HB.out _).mono ?_; rintro e w8 ⟨rfl, b8⟩; have S8 := hid (S2.out.keep b8); have q8 := S8.out.h8; clear b8)
          | (refine Sh.wp_ld plS rfl (.tmp 8) rfl rfl q2.1 ?_)
          | (go_at_call 55; refine (HK.out _).mono ?_; rintro e w' ⟨rfl, rfl⟩))
        dsimp only [Act.put]
        go_roundw
        case rel => exact ⟨pos + nn, en, true, bp, acc, n, A, c, A2, c2, rfl, rfl, rfl, rfl, S9.out, HA.out.1, by have := HA.out.2; omega, by omega, hci.out⟩
        case measure =>
          have e1 : w9.iterPos k = pos + nn := by unfold World.iterPos; rw [S9.out.it]
          have e2 : wr.iterPos k = pos := by unfold World.iterPos; rw [S1.out.it]
          rw [e1, e2]; omega
      | false =>
      by_cases h32 : x = 32
      · have hci := hid (W3.out hge rfl h10 (.inr (.inl h32)))
        have h32' : ((x : Int) == 32) = true := beq_iff_eq.2 (by omega)
        clear W3 W4 W5 W6 HP HT hge h10 h32
        go_wp2_with (first
          | (refine Sh.wp_sv plS (x := bp) rfl (.tmp 8) (.tmp 80) rfl rfl (by rfl) q8 ?_; intro w9 q9 b9 o9 s9; have S9 := hid (S8.out.set _ q9 b9 o9 s9.out); clear q9 b9 o9 s9)
          | (go_at_call 58; refine (HB.out _).mono ?_; rintro e w8 ⟨rfl, b8⟩; have S8 := hid (S2.out.keep b8); have q8 := S8.out.h8; clear b8)
          | (refine Sh.wp_ld plS rfl (.tmp 8) rfl rfl q2.1 ?_)
          | (go_at_call 55; refine (HK.out _).mono ?_; rintro e w' ⟨rfl, rfl⟩))
        dsimp only [Act.put]
        go_roundw
        case rel => exact ⟨pos + nn, en, false, bp, acc, n, A, c, A2, c2, rfl, rfl, rfl, rfl, S9.out, HA.out.1, by have := HA.out.2; omega, by omega, hci.out⟩
        case measure =>
          have e1 : w9.iterPos k = pos + nn := by unfold World.iterPos; rw [S9.out.it]
          have e2 : wr.iterPos k = pos := by unfold World.iterPos; rw [S1.out.it]
          rw [e1, e2]; omega
      have h32' : ((x : Int) == 32) = false := beq_eq_false_iff_ne.2 (by omega)
      by_cases h9 : x = 9
      · have hci := hid (W3.out hge rfl h10 (.inr (.inr h9)))
        have h9' : ((x : Int) == 9) = true := beq_iff_eq.2 (by omega)
        clear W3 W4 W5 W6 HP HT hge h10 h9 h32
        go_wp2_with (first
          | (refine Sh.wp_sv plS (x := bp) rfl (.tmp 8) (.tmp 80) rfl rfl (by rfl) q8 ?_; intro w9 q9 b9 o9 s9; have S9 := hid (S8.out.set _ q9 b9 o9 s9.out); clear q9 b9 o9 s9)
          | (go_at_call 58; refine (HB.out _).mono ?_; rintro e w8 ⟨rfl, b8⟩; have S8 := hid (S2.out.keep b8); have q8 := S8.out.h8; clear b8)
          | (refine Sh.wp_ld plS rfl (.tmp 8) rfl rfl q2.1 ?_)
          | (go_at_call 55; refine (HK.out _).mono ?_; rintro e w' ⟨rfl, rfl⟩))
        dsimp only [Act.put]
        go_roundw
        case rel => exact ⟨pos + nn, en, false, bp, acc, n, A, c, A2, c2, rfl, rfl, rfl, rfl, S9.out, HA.out.1, by have := HA.out.2; omega, by omega, hci.out⟩
        case measure =>
          have e1 : w9.iterPos k = pos + nn := by unfold World.iterPos; rw [S9.out.it]
          have e2 : wr.iterPos k = pos := by unfold World.iterPos; rw [S1.out.it]
          rw [e1, e2]; omega
      have h9' : ((x : Int) == 9) = false := beq_eq_false_iff_ne.2 (by omega)
      have hns : ¬ (false = true ∨ x = 32 ∨ x = 9) := by simp [h32, h9]
      clear W3
      by_cases h35 : x = 35
      · have hci := hid (W4.out hge rfl h10 hns h35)
        have h35' : ((x : Int) == 35) = true := beq_iff_eq.2 (by omega)
        clear W4 W5 W6 HP HT hge h10 h9 h32 hns h35
        go_wp2_with (first
          | (refine Sh.wp_sv plS (x := bp) rfl (.tmp 8) (.tmp 80) rfl rfl (by rfl) q8 ?_; intro w9 q9 b9 o9 s9; have S9 := hid (S8.out.set _ q9 b9 o9 s9.out); clear q9 b9 o9 s9)
          | (go_at_call 58; refine (HB.out _).mono ?_; rintro e w8 ⟨rfl, b8⟩; have S8 := hid (S2.out.keep b8); have q8 := S8.out.h8; clear b8)
          | (refine Sh.wp_ld plS rfl (.tmp 8) rfl rfl q2.1 ?_)
          | (go_at_call 55; refine (HK.out _).mono ?_; rintro e w' ⟨rfl, rfl⟩))
        dsimp only [Act.put]
        go_roundw
        case rel => exact ⟨pos + nn, en, true, bp, acc, n, A, c, A2, c2, rfl, rfl, rfl, rfl, S9.out, HA.out.1, by have := HA.out.2; omega, by omega, hci.out⟩
        case measure =>
          have e1 : w9.iterPos k = pos + nn := by unfold World.iterPos; rw [S9.out.it]
          have e2 : wr.iterPos k = pos := by unfold World.iterPos; rw [S1.out.it]
          rw [e1, e2]; omega
      have h35' : ((x : Int) == 35) = false := beq_eq_false_iff_ne.2 (by omega)
      clear W4
      cases htk : tokF p with
      | error f =>
        have hci := hid (W6.out f hge rfl h10 hns h35 htk)
        rw [htk] at HT
        clear W5 W6 hge h10 h9 h32 hns h35
        have hf := tok_err p f htk
        have hf0 : ¬ (f : Int) = 0 := by omega
        clear htk
        have HT := hid (show ∀ w, LaidW w → Calls Tryz.prog 56 #[.string (bA p)] w fun e w' => e = .returned (.tuple #[tkV ⟨0, [], 0, false⟩, .int .i64 (f : Int)]) ∧ Below w.heap.size w w' from HT.out)
        go_wp2_with (first
          | (refine Sh.wp_sv tkS (x := ⟨0, [], 0, false⟩) rfl (.tmp 13) (.tmp 32) rfl rfl (by rfl) q5 ?_; intro w5 r5 d5 o5 s5; have S5 := hid (S4.out.keep (b5.trans (d5.mono (Nat.le_refl _)))); have R5 := hid r5; clear q5 b5 r5 d5 o5 s5)
          | (refine Sh.wp_al tkS rfl rfl ?_; intro w4a q5 b5 s5; clear s5)
          | (go_at_call 56; refine (HT.out _ (HL.out.below S3.out.bl)).mono ?_; rintro e w4 ⟨rfl, b4⟩; have S4 := hid (S3.out.keep b4); clear b4)
          | (go_at_call 57; refine (HP.out _).mono ?_; rintro e w3 ⟨rfl, b3⟩; have S3 := hid (S2.out.keep b3); clear b3)
          | (go_at_call 55; refine (HK.out _).mono ?_; rintro e w' ⟨rfl, rfl⟩))
        have q2 := S5.out.h8
        have c0 : w5.cell? ⟨g8, 0, none⟩ = some (.int .i64 here.line) := q2.cell (j := 0) rfl
        have c1 : w5.cell? ⟨g8, 1, none⟩ = some (.int .i64 here.col) := q2.cell (j := 1) rfl
        have d0 : w5.cell? ⟨w.heap.size, 0, none⟩ = some (.int .i64 0) := S5.out.h4.cell (j := 0) rfl
        have d1 : w5.cell? ⟨w.heap.size, 1, none⟩ = some (.int .i64 0) := S5.out.h4.cell (j := 1) rfl
        have e0 : w5.frozen? ⟨w.heap.size, 0, none⟩ = false := S5.out.h4.free (j := 0) (by decide)
        have e1 : w5.frozen? ⟨w.heap.size, 1, none⟩ = false := S5.out.h4.free (j := 1) (by decide)
        have hg48 : ¬ g8 = w.heap.size := by have := S2.out.o48; omega
        have hg84 : ¬ w.heap.size = g8 := by omega
        go_region_held3 (fun w' => w'.cell? ⟨g8, 0, none⟩ = some (.int .i64 here.line) ∧ w'.cell? ⟨g8, 1, none⟩ = some (.int .i64 here.col)) (first | with_reducible exact ⟨c0, c1⟩ | go_keep) (first | fail)
        all_goals
          obtain ⟨w9, hW⟩ : ∃ w9, w9 = ((w5.setCell ⟨w.heap.size, 0, none⟩ (.int .i64 here.line)).setCell ⟨w.heap.size, 1, none⟩ (.int .i64 here.col)).drew := ⟨_, rfl⟩
          obtain ⟨z6, z7⟩ := one_stored S5.out.h4 here hW
          rw [← hW]
          clear hW c0 c1 d0 d1 e0 e1
          go_wp2_with fail
          exact bodyPost_ret (results_11p1 Tryz.results35 _ rfl z6) rfl ⟨S5.out.bl.trans (z7 _ (Nat.le_refl _)), .inr (.inl ⟨hs, here, f, hci.out, rfl⟩)⟩
      | ok t =>
        have hci := hid (W5.out t hge rfl h10 hns h35 htk)
        rw [htk] at HT
        clear W5 W6 hge h10 h9 h32 hns h35 htk
        have HT := hid (show ∀ w, LaidW w → Calls Tryz.prog 56 #[.string (bA p)] w fun e w' => e = .returned (.tuple #[tkV t, .int .i64 0]) ∧ Below w.heap.size w w' from HT.out)
        obtain ⟨hnn, ht1, ht2, hci9⟩ := hci.out
        clear hci
        subst hnn
        obtain ⟨m, hm⟩ : ∃ m, t.s.length = m := ⟨_, rfl⟩
        rw [hm] at ht1 ht2 hci9
        have ht2 : pos + m ≤ s.size := ht2
        have HCI := hid hci9
        have HM := hid hm
        clear hci9 hm
        go_wp2_with (first
          | (refine Sh.wp_sv tkS (x := t) rfl (.tmp 13) (.tmp 32) rfl rfl (by rfl) q5 ?_; intro w5 r5 d5 o5 s5; have S5 := hid (S4.out.keep (b5.trans (d5.mono (Nat.le_refl _)))); have R5 := hid r5; have E5 := hid (show (∀ j, Value.ownBlock (.slice A n c) = some j → j < w4.heap.size) ∧ (∀ j, Value.ownBlock (.slice A2 n c2) = some j → j < w4.heap.size) ∧ w4.heap.size < w5.heap.size from ⟨fun j e => (World.ownsRow.lt S4.out.ot j e).2, fun j e => (World.ownsRow.lt S4.out.op j e).2, r5.lt⟩); clear q5 b5 r5 d5 o5 s5)
          | (refine Sh.wp_al tkS rfl rfl ?_; intro w4a q5 b5 s5; clear s5)
          | (go_at_call 56; refine (HT.out _ (HL.out.below S3.out.bl)).mono ?_; rintro e w4 ⟨rfl, b4⟩; have S4 := hid (S3.out.keep b4); clear b4)
          | (go_at_call 57; refine (HP.out _).mono ?_; rintro e w3 ⟨rfl, b3⟩; have S3 := hid (S2.out.keep b3); clear b3)
          | (go_at_call 55; refine (HK.out _).mono ?_; rintro e w' ⟨rfl, rfl⟩))
        have M5 := hid (show M1 (k + 1) w4.heap.size t w5 w5 A n c (acc.map (·.1)) A2 n c2 (acc.map (·.2)) from ⟨Below.refl _ _, Nat.le_refl _, R5.out, S5.out.ot, S5.out.op, S5.out.le⟩)
        have H5 := hid S5.out.h8
        have hlek : k + 1 ≤ w5.heap.size := S5.out.le
        have hg8k : g8 < k + 1 := by have := S5.out.o8; omega
        obtain ⟨tk, tss, tn, tt⟩ := t
        generalize hts : strB tss = ts at *
        have HTS := hid hts
        clear hts
        generalize hg13 : w4.heap.size = g13 at *
        have c0 : w5.cell? ⟨g8, 0, none⟩ = some (.int .i64 here.line) := S5.out.h8.cell (j := 0) rfl
        have c1 : w5.cell? ⟨g8, 1, none⟩ = some (.int .i64 here.col) := S5.out.h8.cell (j := 1) rfl
        have x0 : w5.cell? ⟨g13, 0, none⟩ = some (.int .i64 tk) := R5.out.cell (j := 0) rfl
        have x1 : w5.cell? ⟨g13, 1, none⟩ = some (.string ts) := by have := R5.out.cell (j := 1) rfl; rw [← HTS.out]; exact this
        have x2 : w5.cell? ⟨g13, 2, none⟩ = some (.int .i64 tn) := R5.out.cell (j := 2) rfl
        have x3 : w5.cell? ⟨g13, 3, none⟩ = some (.bool tt) := R5.out.cell (j := 3) rfl
        have hn6 : n ≤ 1000000 := by have := HA.out.2; omega
        have hencT : tkS.enc ⟨tk, tss, tn, tt⟩ = [.int .i64 tk, .string ts, .int .i64 tn, .bool tt] := by rw [← HTS.out]; rfl
        have hneT : ∀ j, Value.ownBlock (.slice A n c) = some j → j ≠ g13 := fun j e => Nat.ne_of_lt (E5.out.1 j e)
        have hneP : ∀ j, Value.ownBlock (.slice A2 n c2) = some j → j ≠ g13 := fun j e => Nat.ne_of_lt (E5.out.2.1 j e)
        have hneR1 : ∀ j, Value.ownBlock (.slice A n c) = some j → j ≠ w5.heap.size + 1 := fun j e => by have := E5.out.1 j e; have := E5.out.2.2; omega
        have hneR0 : ∀ j, Value.ownBlock (.slice A n c) = some j → j ≠ w5.heap.size := fun j e => by have := E5.out.1 j e; have := E5.out.2.2; omega
        go_region_held3 (fun w' => w'.cell? ⟨g8, 0, none⟩ = some (.int .i64 here.line) ∧ w'.cell? ⟨g8, 1, none⟩ = some (.int .i64 here.col) ∧ w'.cell? ⟨g13, 0, none⟩ = some (.int .i64 tk) ∧ w'.cell? ⟨g13, 1, none⟩ = some (.string ts) ∧ w'.cell? ⟨g13, 2, none⟩ = some (.int .i64 tn) ∧ w'.cell? ⟨g13, 3, none⟩ = some (.bool tt)) (first | with_reducible exact ⟨c0, c1, x0, x1, x2, x3⟩ | go_keep)
          (first
            | (refine Sh.step_push tkS (A := A) (c := c) (l := acc.map (·.1)) (base := k + 1) (x := ⟨tk, tss, tn, tt⟩) rfl (.tmp 38) (.tmp 40) (by rfl) (by rfl) ?_ (by rfl) ?_ hn6 ?_ ?_; (focus exact M1.ot (show M1 (k + 1) g13 ⟨tk, tss, tn, tt⟩ w5 _ A n c (acc.map (·.1)) A2 n c2 (acc.map (·.2)) from by (repeat (first | with_reducible exact M5.out | with_reducible refine M1.alloc ?_ _ | with_reducible refine M1.drew ?_)); done)); (focus rw [hencT]; exact (by (repeat (first | with_reducible exact range_new' _ _ _ _ (by simp; done) | with_reducible refine World.rangeAt_alloc ?_ _ | with_reducible refine (World.rangeAt_drew _ _ _ _).2 ?_)); done)); (focus (first | (simp; done) | (simp; omega) | omega)); intro A6 c6 w6 own6 gr6; have m6 := M1.pushT (show M1 (k + 1) g13 ⟨tk, tss, tn, tt⟩ w5 _ A n c (acc.map (·.1)) A2 n c2 (acc.map (·.2)) from by (repeat (first | with_reducible exact M5.out | with_reducible refine M1.alloc ?_ _ | with_reducible refine M1.drew ?_)); done) own6 gr6 hneT; (first | (refine M1.row_then (b := w5.heap.size + 1) (cs := [.int .i64 here.line, .int .i64 here.col]) (show M1 (k + 1) g13 ⟨tk, tss, tn, tt⟩ w5 _ A n c (acc.map (·.1)) A2 n c2 (acc.map (·.2)) from by (repeat (first | with_reducible exact M5.out | with_reducible refine M1.alloc ?_ _ | with_reducible refine M1.drew ?_)); done) gr6 hneR1 ?_ ?_ ?_; (focus (repeat (first | with_reducible refine range_new' _ _ _ _ ?_ | with_reducible refine World.rangeAt_alloc ?_ _ | with_reducible refine (World.rangeAt_drew _ _ _ _).2 ?_)); (first | (simp; done) | done)); (focus (first | (simp; done) | (simp; omega))); intro rp) | (refine M1.row_then (b := w5.heap.size) (cs := [.int .i64 here.line, .int .i64 here.col]) (show M1 (k + 1) g13 ⟨tk, tss, tn, tt⟩ w5 _ A n c (acc.map (·.1)) A2 n c2 (acc.map (·.2)) from by (repeat (first | with_reducible exact M5.out | with_reducible refine M1.alloc ?_ _ | with_reducible refine M1.drew ?_)); done) gr6 hneR0 ?_ ?_ ?_; (focus (repeat (first | with_reducible refine range_new' _ _ _ _ ?_ | with_reducible refine World.rangeAt_alloc ?_ _ | with_reducible refine (World.rangeAt_drew _ _ _ _).2 ?_)); (first | (simp; done) | done)); (focus (first | (simp; done) | (simp; omega))); intro rp) | skip); clear own6 gr6; have c0 : w6.cell? ⟨g8, 0, none⟩ = some (.int .i64 here.line) := (H5.out.below m6.bl hg8k).cell (j := 0) rfl; have c1 : w6.cell? ⟨g8, 1, none⟩ = some (.int .i64 here.col) := (H5.out.below m6.bl hg8k).cell (j := 1) rfl; have x0 : w6.cell? ⟨g13, 0, none⟩ = some (.int .i64 tk) := m6.h13.cell (j := 0) rfl; have x1 : w6.cell? ⟨g13, 1, none⟩ = some (.string ts) := (by have := m6.h13.cell (j := 1) rfl; rw [← HTS.out]; exact this); have x2 : w6.cell? ⟨g13, 2, none⟩ = some (.int .i64 tn) := m6.h13.cell (j := 2) rfl; have x3 : w6.cell? ⟨g13, 3, none⟩ = some (.bool tt) := m6.h13.cell (j := 3) rfl)
            | (refine Sh.step_push plS (A := A2) (c := c2) (l := acc.map (·.2)) (base := k + 1) (x := here) rfl (.tmp 42) (.tmp 44) (by rfl) (by rfl) ?_ (by rfl) ?_ hn6 ?_ ?_; (focus exact M1.op (show M1 (k + 1) g13 ⟨tk, tss, tn, tt⟩ w5 _ A6 (n + 1) c6 (acc.map (·.1) ++ [⟨tk, tss, tn, tt⟩]) A2 n c2 (acc.map (·.2)) from by (repeat (first | with_reducible exact m6 | with_reducible refine M1.alloc ?_ _ | with_reducible refine M1.drew ?_)); done)); (focus show World.rangeAt _ _ _ [.int .i64 here.line, .int .i64 here.col]; (first | (with_reducible exact rp) | ((repeat (first | with_reducible refine range_new' _ _ _ _ ?_ | with_reducible refine World.rangeAt_alloc ?_ _ | with_reducible refine (World.rangeAt_drew _ _ _ _).2 ?_)); (first | (simp; done) | done)))); (focus have := m6.sz; (first | (simp; done) | (simp; omega) | omega)); intro A7 c7 w7 own7 gr7; have m7 := M1.pushP (show M1 (k + 1) g13 ⟨tk, tss, tn, tt⟩ w5 _ A6 (n + 1) c6 (acc.map (·.1) ++ [⟨tk, tss, tn, tt⟩]) A2 n c2 (acc.map (·.2)) from by (repeat (first | with_reducible exact m6 | with_reducible refine M1.alloc ?_ _ | with_reducible refine M1.drew ?_)); done) own7 gr7 hneP; clear own7 gr7; have c0 : w7.cell? ⟨g8, 0, none⟩ = some (.int .i64 here.line) := (H5.out.below m7.bl hg8k).cell (j := 0) rfl; have c1 : w7.cell? ⟨g8, 1, none⟩ = some (.int .i64 here.col) := (H5.out.below m7.bl hg8k).cell (j := 1) rfl; have x0 : w7.cell? ⟨g13, 0, none⟩ = some (.int .i64 tk) := m7.h13.cell (j := 0) rfl; have x1 : w7.cell? ⟨g13, 1, none⟩ = some (.string ts) := (by have := m7.h13.cell (j := 1) rfl; rw [← HTS.out]; exact this); have x2 : w7.cell? ⟨g13, 2, none⟩ = some (.int .i64 tn) := m7.h13.cell (j := 2) rfl; have x3 : w7.cell? ⟨g13, 3, none⟩ = some (.bool tt) := m7.h13.cell (j := 3) rfl))
        all_goals
          have S7 := hid (S5.out.grow m7.ot m7.op m7.bl)
          have x1' := x1
          have q7 := S7.out.h8
          clear c0 c1 x0 x2 x3 x1 m6 m7
          have hln : ts.size = m := by rw [← HTS.out, ← HM.out]; exact bA_size _
          go_wp2_with (first
            | (refine Sh.wp_sv plS (x := bp) rfl (.tmp 8) (.tmp 80) rfl rfl (by rfl) q8 ?_; intro w9 q9 b9 o9 s9; have S9 := hid (S8.out.set _ q9 b9 o9 s9.out); clear q9 b9 o9 s9)
            | (go_at_call 58; refine (HB.out _).mono ?_; rintro e w8 ⟨rfl, b8⟩; have S8 := hid (S7.out.keep b8); have q8 := S8.out.h8; clear b8)
            | (refine Sh.wp_ld plS rfl (.tmp 8) rfl rfl q7.1 ?_))
          dsimp only [Act.put]
          go_roundw
          case rel => exact ⟨pos + 1, pos + m, false, bp, acc ++ [(⟨tk, tss, tn, tt⟩, here)], n + 1, A6, c6, A7, c7, rfl, rfl, by go_num, rfl, by rw [List.map_append, List.map_append]; exact S9.out, by rw [List.length_append, HA.out.1]; rfl, by have := HA.out.2; omega, by omega, HCI.out⟩
          case measure =>
            have e1 : w9.iterPos k = pos + 1 := by unfold World.iterPos; rw [S9.out.it]
            have e2 : wr.iterPos k = pos := by unfold World.iterPos; rw [S1.out.it]
            rw [e1, e2]; omega
    · have hnx : ∀ ty, (Instr.next (.pointer (some ⟨k, 0, none⟩)) true ty).run Tryz.prog wr = _ := fun ty => Lib.run_next_end_at wr k s pos ty hcs.it hlt
      have HE := hid (ci_end hci (by show s.size ≤ pos; omega))
      have q4 := hcs.h4
      clear hci hcs
      go_wp2_with (first
        | (refine Sh.wp_sv plS (x := ⟨0, 0⟩) rfl (.tmp 4) (.tmp 83) rfl rfl (by rfl) q4 ?_; intro w9 q9 b9 o9 s9))
      have hkb := S1.out.o48
      have hkb2 := S1.out.o8
      refine bodyPost_ret (results_11p1 Tryz.results35 _ rfl q9) rfl ⟨S1.out.bl.trans b9, .inr (.inr ⟨hs, HE.out.2, n, A, c, A2, c2, ?_, ?_, rfl, ?_, ?_⟩)⟩
      · rw [HE.out.1]; exact hacc
      · omega
      · rw [HE.out.1]; exact (S1.out.ot.oth o9 (by omega)).base_le (by omega)
      · rw [HE.out.1]; exact (S1.out.op.oth o9 (by omega)).base_le (by omega)
theorem lcut_any (s : ByteArray) (w : World) (hL : LaidW w) (hs : s.size ≤ 9223372036854775807) : Calls Tryz.prog 35 #[.string s] w (CutPost s w) := by
  by_cases h : s.size ≤ 65536
  · exact cut_short s w hL h
  · exact cut_long s w hL (by omega) hs
end Go.Proofs.YtkfnkieljcipnaaGreatDoor

/-! LT -/
namespace Go.Proofs.YtkfnkieljcipnaaGreatDoor
open Go Go.RowKit Go.Joins

/-- the greatest unit of which a time is a whole number -/
def unitOf (t : Int) : List UInt8 × Int :=
  if t = 0 then ([112, 115], 1) else if t.tmod 1000000000000 = 0 then ([115], 1000000000000) else if t.tmod 1000000000 = 0 then ([109, 115], 1000000000) else if t.tmod 1000000 = 0 then ([117, 115], 1000000) else if t.tmod 1000 = 0 then ([110, 115], 1000) else ([112, 115], 1)
theorem greatest_of (t : Int) : UnitIs (bA (unitOf t).1) (unitOf t).2 ∧ t.tdiv (unitOf t).2 * (unitOf t).2 = t ∧ GreatestSaid t (bA (unitOf t).1) (unitOf t).2 := by
  by_cases h0 : t = 0
  · subst h0
    exact ⟨.inl ⟨rfl, rfl⟩, by decide, fun w hL => greatest_zero w hL⟩
  have hz : (t != 0) = true := by simp [h0]
  unfold unitOf
  rw [if_neg h0]
  have d4 : t.tmod 1000000000000 = 0 → t.tmod 1000000000 = 0 := fun h => dvd_tmod (Int.dvd_trans ⟨1000, by decide⟩ (tmod_dvd h))
  have d3 : t.tmod 1000000000 = 0 → t.tmod 1000000 = 0 := fun h => dvd_tmod (Int.dvd_trans ⟨1000, by decide⟩ (tmod_dvd h))
  have d2 : t.tmod 1000000 = 0 → t.tmod 1000 = 0 := fun h => dvd_tmod (Int.dvd_trans ⟨1000, by decide⟩ (tmod_dvd h))
  by_cases h4 : t.tmod 1000000000000 = 0
  · rw [if_pos h4]
    exact ⟨.inr (.inr (.inr (.inr ⟨rfl, rfl⟩))), Int.tdiv_mul_cancel (tmod_dvd h4), fun w hL => greatest_4 t w hL hz (tm _ _ (d2 (d3 (d4 h4)))) (tm _ _ (d3 (d4 h4))) (tm _ _ (d4 h4)) (tm _ _ h4)⟩
  rw [if_neg h4]
  by_cases h3 : t.tmod 1000000000 = 0
  · rw [if_pos h3]
    exact ⟨.inr (.inr (.inr (.inl ⟨rfl, rfl⟩))), Int.tdiv_mul_cancel (tmod_dvd h3), fun w hL => greatest_3 t w hL hz (tm _ _ (d2 (d3 h3))) (tm _ _ (d3 h3)) (tm _ _ h3) (tmn _ _ h4)⟩
  rw [if_neg h3]
  by_cases h2 : t.tmod 1000000 = 0
  · rw [if_pos h2]
    exact ⟨.inr (.inr (.inl ⟨rfl, rfl⟩)), Int.tdiv_mul_cancel (tmod_dvd h2), fun w hL => greatest_2 t w hL hz (tm _ _ (d2 h2)) (tm _ _ h2) (tmn _ _ h3) (tmn _ _ h4)⟩
  rw [if_neg h2]
  by_cases h1 : t.tmod 1000 = 0
  · rw [if_pos h1]
    exact ⟨.inr (.inl ⟨rfl, rfl⟩), Int.tdiv_mul_cancel (tmod_dvd h1), fun w hL => greatest_1 t w hL hz (tm _ _ h1) (tmn _ _ h2) (tmn _ _ h3) (tmn _ _ h4)⟩
  rw [if_neg h1]
  exact ⟨.inl ⟨rfl, rfl⟩, by simp, fun w hL => greatest_0 t w hL hz (tmn _ _ h1) (tmn _ _ h2) (tmn _ _ h3) (tmn _ _ h4)⟩

/-- a number's text, a time's -/
def numX (n : Int) (time : Bool) : List UInt8 := if time then Lib.itoa (n.tdiv (unitOf n).2) ++ (unitOf n).1 else Lib.itoa n

set_option maxRecDepth 100000 in
theorem written_any (t : Tk) (w : World) (hL : LaidW w) (hs : smallI t.n = true) :
    Calls Tryz.prog 90 #[tkV t] w fun e w' => e = .returned (.string (bA (numX t.n t.time))) ∧ Below w.heap.size w w' := by
  obtain ⟨k, s, n, tm⟩ := t
  have hs' : -1000000000000000000 < n ∧ n < 1000000000000000000 := by simpa [smallI] using hs
  have HL := hid hL
  clear hL hs
  cases tm
  · have HF := hid (fun w hL => fmt_any n w hL (by omega) (by omega))
    go_enter Tryz.func90, Tryz.ntmps90
    go_wp2_with (first
      | (go_at_call 106; refine (HF.out _ (HL.out.below B1.out)).mono ?_; rintro e w2 ⟨rfl, g2⟩; have B2 := hid (B1.out.trans (g2.mono B1.out.size)); clear g2)
      | (refine Sh.wp_box tkS (x := ⟨k, s, n, false⟩) rfl (.tmp 0) rfl rfl ?_; intro w1 v1 b1 s1; have c2 : w1.cell? ⟨w.heap.size, 2, none⟩ = some (.int .i64 n) := v1.cell (j := 2) rfl; have c3 : w1.cell? ⟨w.heap.size, 3, none⟩ = some (.bool false) := v1.cell (j := 3) rfl; have B1 := hid b1; clear v1 b1 s1))
    go_ret
    exact ⟨rfl, B2.out⟩
  · have hg := greatest_of n
    have HF := hid (fun w hL => text_ok n (unitOf n).2 (bA (unitOf n).1) w hL (by omega) (by omega) (unit_size hg.1).1 (unit_size hg.1).2 hg.2.2)
    have he : Hid (bA (numX n true) = ⟨(Lib.itoa (n.tdiv (unitOf n).2)).toArray⟩ ++ bA (unitOf n).1) := hid (bA_app _ _)
    generalize (⟨(Lib.itoa (n.tdiv (unitOf n).2)).toArray⟩ : ByteArray) ++ bA (unitOf n).1 = z at *
    clear hg
    go_enter Tryz.func90, Tryz.ntmps90
    go_wp2_with (first
      | (go_at_call 107; refine (HF.out _ (HL.out.below B1.out)).mono ?_; rintro e w2 ⟨rfl, g2⟩; have B2 := hid (B1.out.trans (g2.mono B1.out.size)); clear g2)
      | (refine Sh.wp_box tkS (x := ⟨k, s, n, true⟩) rfl (.tmp 0) rfl rfl ?_; intro w1 v1 b1 s1; have c2 : w1.cell? ⟨w.heap.size, 2, none⟩ = some (.int .i64 n) := v1.cell (j := 2) rfl; have c3 : w1.cell? ⟨w.heap.size, 3, none⟩ = some (.bool true) := v1.cell (j := 3) rfl; have B1 := hid b1; clear v1 b1 s1))
    go_ret
    exact ⟨by rw [he.out]; rfl, B2.out⟩

/-- a token's text, if it is one -/
def textF (t : Tk) : Option (List UInt8) :=
  if t.kind = 2 ∧ smallI t.n = true then some (numX t.n t.time)
  else if t.n ≠ 0 ∨ t.time = true then none
  else if t.kind = 1 ∧ wordB t.s = true then some t.s
  else if t.kind = 3 ∧ signL t.s = true then some t.s else none
def textR (t : Tk) : Value := match textF t with
  | some l => .tuple #[.string (bA l), .int .i64 0]
  | none => .tuple #[.string ⟨#[]⟩, .int .i64 1]

set_option maxRecDepth 100000 in
theorem text_any (t : Tk) (w : World) (hL : LaidW w) (hsz : t.s.length ≤ 1099511627776) :
    Calls Tryz.prog 72 #[tkV t] w fun e w' => e = .returned (textR t) ∧ Below w.heap.size w w' := by
  obtain ⟨k, s, n, tm⟩ := t
  have HL := hid hL
  have hsz : s.length ≤ 1099511627776 := hsz
  have hz := bA_size s
  have HW := hid (fun w => word_any (bA s) w (by rw [hz]; omega))
  unfold WordPost at HW
  rw [bA_list] at HW
  have HS := hid (fun w => by have := sign_any (bA s) w; rwa [bA_list] at this)
  have HC := hid (fun w => clone_any (bA s) w (by rw [hz]; omega))
  have HB := hid (fun w => small_any n w)
  have eb : (decide (-1000000000000000000 < n) && decide (n < 1000000000000000000)) = smallI n := rfl
  rw [eb] at HB
  clear eb
  have HN := hid (fun w hL hs => written_any ⟨k, s, n, tm⟩ w hL hs)
  have hb : strB s = bA s := rfl
  clear hL hz hsz
  by_cases h2 : k = 2
  · subst h2
    cases hsm : smallI n with
    | true =>
      have HR : Hid (textF ⟨2, s, n, tm⟩ = some (numX n tm)) := hid (by unfold textF; rw [if_pos ⟨rfl, hsm⟩])
      have HN := hid (fun w hL => HN.out w hL hsm)
      have HB := hid (fun w => by have := HB.out w; rwa [hsm] at this)
      clear HW HS HC hsm
      go_enter Tryz.func72, Tryz.ntmps72
      go_wp2_with (first
        | (go_at_call 90; refine (HN.out _ (HL.out.below B1.out)).mono ?_; rintro e w2 ⟨rfl, g2⟩; have B2 := hid (B1.out.trans (g2.mono B1.out.size)); clear g2)
        | (refine Sh.wp_ld tkS rfl (.tmp 1) rfl rfl V1.out.1 ?_)
        | (go_at_call 89; refine (HB.out _).mono ?_; rintro e w' ⟨rfl, e7⟩; rw [e7]; clear e7 w')
        | (refine Sh.wp_box tkS (x := ⟨2, s, n, tm⟩) rfl (.tmp 0) rfl rfl ?_; intro w1 v1 b1 s1; have c0 : w1.cell? ⟨w.heap.size, 0, none⟩ = some (.int .i64 2) := v1.cell (j := 0) rfl; have c1 : w1.cell? ⟨w.heap.size, 1, none⟩ = some (.string (bA s)) := v1.cell (j := 1) rfl; have c2 : w1.cell? ⟨w.heap.size, 2, none⟩ = some (.int .i64 n) := v1.cell (j := 2) rfl; have c3 : w1.cell? ⟨w.heap.size, 3, none⟩ = some (.bool tm) := v1.cell (j := 3) rfl; have B1 := hid b1; have V1 := hid v1; clear v1 b1 s1))
      go_ret2
      exact ⟨by unfold textR; rw [HR.out]; rfl, B2.out⟩
    | false =>
      have hn0 : n ≠ 0 := by
        rintro rfl
        exact absurd hsm (by decide)
      have HR : Hid (textF ⟨2, s, n, tm⟩ = none) := hid (by unfold textF; rw [if_neg (by rintro ⟨_, h⟩; rw [hsm] at h; cases h), if_pos (.inl hn0)])
      have HB := hid (fun w => by have := HB.out w; rwa [hsm] at this)
      have hn1 : (n != 0) = true := by simp [hn0]
      clear HW HS HC HN hsm hn0
      go_enter Tryz.func72, Tryz.ntmps72
      go_wp2_with (first
        | (go_at_call 89; refine (HB.out _).mono ?_; rintro e w' ⟨rfl, e7⟩; rw [e7]; clear e7 w')
        | (refine Sh.wp_box tkS (x := ⟨2, s, n, tm⟩) rfl (.tmp 0) rfl rfl ?_; intro w1 v1 b1 s1; have c0 : w1.cell? ⟨w.heap.size, 0, none⟩ = some (.int .i64 2) := v1.cell (j := 0) rfl; have c1 : w1.cell? ⟨w.heap.size, 1, none⟩ = some (.string (bA s)) := v1.cell (j := 1) rfl; have c2 : w1.cell? ⟨w.heap.size, 2, none⟩ = some (.int .i64 n) := v1.cell (j := 2) rfl; have c3 : w1.cell? ⟨w.heap.size, 3, none⟩ = some (.bool tm) := v1.cell (j := 3) rfl; have B1 := hid b1; have V1 := hid v1; clear v1 b1 s1))
      go_ret2
      exact ⟨by unfold textR; rw [HR.out]; rfl, B1.out⟩
  have hk2 : (k == 2) = false := beq_eq_false_iff_ne.2 h2
  clear HB HN
  by_cases hn0 : n = 0
  · subst hn0
    cases tm with
    | true =>
      have HR : Hid (textF ⟨k, s, 0, true⟩ = none) := hid (by unfold textF; rw [if_neg (fun h => h2 h.1), if_pos (.inr rfl)])
      clear HW HS HC h2
      go_enter Tryz.func72, Tryz.ntmps72
      go_wp2_with (first
        | (refine Sh.wp_box tkS (x := ⟨k, s, 0, true⟩) rfl (.tmp 0) rfl rfl ?_; intro w1 v1 b1 s1; have c0 : w1.cell? ⟨w.heap.size, 0, none⟩ = some (.int .i64 k) := v1.cell (j := 0) rfl; have c1 : w1.cell? ⟨w.heap.size, 1, none⟩ = some (.string (bA s)) := v1.cell (j := 1) rfl; have c2 : w1.cell? ⟨w.heap.size, 2, none⟩ = some (.int .i64 0) := v1.cell (j := 2) rfl; have c3 : w1.cell? ⟨w.heap.size, 3, none⟩ = some (.bool true) := v1.cell (j := 3) rfl; have B1 := hid b1; have V1 := hid v1; clear v1 b1 s1))
      go_ret2
      exact ⟨by unfold textR; rw [HR.out]; rfl, B1.out⟩
    | false =>
      by_cases h1 : k = 1
      · subst h1
        cases hw : wordB s with
        | true =>
          have HR : Hid (textF ⟨1, s, 0, false⟩ = some s) := hid (by unfold textF; rw [if_neg (fun h => h2 h.1), if_neg (by simp), if_pos ⟨rfl, hw⟩])
          rw [hw] at HW
          clear HS hw h2
          go_enter Tryz.func72, Tryz.ntmps72
          go_wp2_with (first
            | (go_at_call 67; refine (HC.out _).mono ?_; rintro e w3 ⟨rfl, g3⟩; have B3 := hid (B2.out.trans (g3.mono B2.out.size)); clear g3)
            | (go_at_call 77; refine (HW.out _).mono ?_; rintro e w2 ⟨rfl, g2⟩; have V2 := hid (V1.out.keep g2); have d0 : w2.cell? ⟨w.heap.size, 0, none⟩ = some (.int .i64 1) := V2.out.cell (j := 0) rfl; have d1 : w2.cell? ⟨w.heap.size, 1, none⟩ = some (.string (bA s)) := V2.out.cell (j := 1) rfl; have B2 := hid (B1.out.trans (g2.mono B1.out.size)); clear g2)
            | (refine Sh.wp_box tkS (x := ⟨1, s, 0, false⟩) rfl (.tmp 0) rfl rfl ?_; intro w1 v1 b1 s1; have c0 : w1.cell? ⟨w.heap.size, 0, none⟩ = some (.int .i64 1) := v1.cell (j := 0) rfl; have c1 : w1.cell? ⟨w.heap.size, 1, none⟩ = some (.string (bA s)) := v1.cell (j := 1) rfl; have c2 : w1.cell? ⟨w.heap.size, 2, none⟩ = some (.int .i64 0) := v1.cell (j := 2) rfl; have c3 : w1.cell? ⟨w.heap.size, 3, none⟩ = some (.bool false) := v1.cell (j := 3) rfl; have B1 := hid b1; have V1 := hid v1; clear v1 b1 s1))
          go_ret2
          exact ⟨by unfold textR; rw [HR.out]; rfl, B3.out⟩
        | false =>
          have HR : Hid (textF ⟨1, s, 0, false⟩ = none) := hid (by unfold textF; rw [if_neg (fun h => h2 h.1), if_neg (by simp), if_neg (by rintro ⟨_, h⟩; rw [hw] at h; cases h), if_neg (fun h => by have : (1 : Int) = 3 := h.1; omega)])
          rw [hw] at HW
          clear HS HC hw h2
          go_enter Tryz.func72, Tryz.ntmps72
          go_wp2_with (first
            | (go_at_call 77; refine (HW.out _).mono ?_; rintro e w2 ⟨rfl, g2⟩; have V2 := hid (V1.out.keep g2); have d0 : w2.cell? ⟨w.heap.size, 0, none⟩ = some (.int .i64 1) := V2.out.cell (j := 0) rfl; have d1 : w2.cell? ⟨w.heap.size, 1, none⟩ = some (.string (bA s)) := V2.out.cell (j := 1) rfl; have B2 := hid (B1.out.trans (g2.mono B1.out.size)); clear g2)
            | (refine Sh.wp_box tkS (x := ⟨1, s, 0, false⟩) rfl (.tmp 0) rfl rfl ?_; intro w1 v1 b1 s1; have c0 : w1.cell? ⟨w.heap.size, 0, none⟩ = some (.int .i64 1) := v1.cell (j := 0) rfl; have c1 : w1.cell? ⟨w.heap.size, 1, none⟩ = some (.string (bA s)) := v1.cell (j := 1) rfl; have c2 : w1.cell? ⟨w.heap.size, 2, none⟩ = some (.int .i64 0) := v1.cell (j := 2) rfl; have c3 : w1.cell? ⟨w.heap.size, 3, none⟩ = some (.bool false) := v1.cell (j := 3) rfl; have B1 := hid b1; have V1 := hid v1; clear v1 b1 s1))
          go_ret2
          exact ⟨by unfold textR; rw [HR.out]; rfl, B2.out⟩
      have hk1 : (k == 1) = false := beq_eq_false_iff_ne.2 h1
      by_cases h3 : k = 3
      · subst h3
        cases hw : signL s with
        | true =>
          have HR : Hid (textF ⟨3, s, 0, false⟩ = some s) := hid (by unfold textF; rw [if_neg (fun h => h2 h.1), if_neg (by simp), if_neg (fun h => h1 h.1), if_pos ⟨rfl, hw⟩])
          rw [hw] at HS
          clear HW hw h2 h1
          go_enter Tryz.func72, Tryz.ntmps72
          go_wp2_with (first
            | (go_at_call 67; refine (HC.out _).mono ?_; rintro e w2 ⟨rfl, g2⟩; have B2 := hid (B1.out.trans (g2.mono B1.out.size)); clear g2)
            | (go_at_call 76; refine (HS.out _).mono ?_; rintro e w' ⟨rfl, e7⟩; rw [e7]; clear e7 w')
            | (refine Sh.wp_box tkS (x := ⟨3, s, 0, false⟩) rfl (.tmp 0) rfl rfl ?_; intro w1 v1 b1 s1; have c0 : w1.cell? ⟨w.heap.size, 0, none⟩ = some (.int .i64 3) := v1.cell (j := 0) rfl; have c1 : w1.cell? ⟨w.heap.size, 1, none⟩ = some (.string (bA s)) := v1.cell (j := 1) rfl; have c2 : w1.cell? ⟨w.heap.size, 2, none⟩ = some (.int .i64 0) := v1.cell (j := 2) rfl; have c3 : w1.cell? ⟨w.heap.size, 3, none⟩ = some (.bool false) := v1.cell (j := 3) rfl; have B1 := hid b1; have V1 := hid v1; clear v1 b1 s1))
          go_ret2
          exact ⟨by unfold textR; rw [HR.out]; rfl, B2.out⟩
        | false =>
          have HR : Hid (textF ⟨3, s, 0, false⟩ = none) := hid (by unfold textF; rw [if_neg (fun h => h2 h.1), if_neg (by simp), if_neg (fun h => h1 h.1), if_neg (by rintro ⟨_, h⟩; rw [hw] at h; cases h)])
          rw [hw] at HS
          clear HW HC hw h2 h1
          go_enter Tryz.func72, Tryz.ntmps72
          go_wp2_with (first
            | (go_at_call 76; refine (HS.out _).mono ?_; rintro e w' ⟨rfl, e7⟩; rw [e7]; clear e7 w')
            | (refine Sh.wp_box tkS (x := ⟨3, s, 0, false⟩) rfl (.tmp 0) rfl rfl ?_; intro w1 v1 b1 s1; have c0 : w1.cell? ⟨w.heap.size, 0, none⟩ = some (.int .i64 3) := v1.cell (j := 0) rfl; have c1 : w1.cell? ⟨w.heap.size, 1, none⟩ = some (.string (bA s)) := v1.cell (j := 1) rfl; have c2 : w1.cell? ⟨w.heap.size, 2, none⟩ = some (.int .i64 0) := v1.cell (j := 2) rfl; have c3 : w1.cell? ⟨w.heap.size, 3, none⟩ = some (.bool false) := v1.cell (j := 3) rfl; have B1 := hid b1; have V1 := hid v1; clear v1 b1 s1))
          go_ret2
          exact ⟨by unfold textR; rw [HR.out]; rfl, B1.out⟩
      have hk3 : (k == 3) = false := beq_eq_false_iff_ne.2 h3
      have HR : Hid (textF ⟨k, s, 0, false⟩ = none) := hid (by unfold textF; rw [if_neg (fun h => h2 h.1), if_neg (by simp), if_neg (fun h => h1 h.1), if_neg (fun h => h3 h.1)])
      clear HW HS HC h2 h1 h3
      go_enter Tryz.func72, Tryz.ntmps72
      go_wp2_with (first
        | (refine Sh.wp_box tkS (x := ⟨k, s, 0, false⟩) rfl (.tmp 0) rfl rfl ?_; intro w1 v1 b1 s1; have c0 : w1.cell? ⟨w.heap.size, 0, none⟩ = some (.int .i64 k) := v1.cell (j := 0) rfl; have c1 : w1.cell? ⟨w.heap.size, 1, none⟩ = some (.string (bA s)) := v1.cell (j := 1) rfl; have c2 : w1.cell? ⟨w.heap.size, 2, none⟩ = some (.int .i64 0) := v1.cell (j := 2) rfl; have c3 : w1.cell? ⟨w.heap.size, 3, none⟩ = some (.bool false) := v1.cell (j := 3) rfl; have B1 := hid b1; have V1 := hid v1; clear v1 b1 s1))
      go_ret2
      exact ⟨by unfold textR; rw [HR.out]; rfl, B1.out⟩
  · have HR : Hid (textF ⟨k, s, n, tm⟩ = none) := hid (by unfold textF; rw [if_neg (fun h => h2 h.1), if_pos (.inl hn0)])
    have hn1 : (n != 0) = true := by simp [hn0]
    clear HW HS HC hn0 h2
    go_enter Tryz.func72, Tryz.ntmps72
    go_wp2_with (first
      | (refine Sh.wp_box tkS (x := ⟨k, s, n, tm⟩) rfl (.tmp 0) rfl rfl ?_; intro w1 v1 b1 s1; have c0 : w1.cell? ⟨w.heap.size, 0, none⟩ = some (.int .i64 k) := v1.cell (j := 0) rfl; have c1 : w1.cell? ⟨w.heap.size, 1, none⟩ = some (.string (bA s)) := v1.cell (j := 1) rfl; have c2 : w1.cell? ⟨w.heap.size, 2, none⟩ = some (.int .i64 n) := v1.cell (j := 2) rfl; have c3 : w1.cell? ⟨w.heap.size, 3, none⟩ = some (.bool tm) := v1.cell (j := 3) rfl; have B1 := hid b1; have V1 := hid v1; clear v1 b1 s1))
    go_ret2
    exact ⟨by unfold textR; rw [HR.out]; rfl, B1.out⟩
end Go.Proofs.YtkfnkieljcipnaaGreatDoor

/-! LU -/
namespace Go.Proofs.YtkfnkieljcipnaaGreatDoor
open Go

theorem piece_of (c : UInt8) (r rest : List UInt8) (h1 : c.toNat < 128) (h2 : sgB c = false) (h3 : r.all ldB = true) (h4 : rest = [] ∨ ∃ d e, rest = d :: e ∧ ldB d = false) : pieceF ((c :: r) ++ rest) = c :: r := by
  rw [List.cons_append, pieceF_cons, if_neg (by rw [h2]; decide), dec_ascii _ _ h1]
  show [c] ++ (r ++ rest).takeWhile ldB = _
  rw [takeWhile_stop ldB r rest h3 h4]
  rfl
theorem piece_sg (c : UInt8) (rest : List UInt8) (h2 : sgB c = true) : pieceF (c :: rest) = [c] := by
  rw [pieceF_cons, if_pos h2]

/-- What no space, line's end, or remark begins with. -/
def plainB (c : UInt8) : Bool := decide (c.toNat < 128) && !(c == 10 || c == 32 || c == 9 || c == 35)
theorem cut_one (c : UInt8) (r rest : List UInt8) (p : Pl) (t : Tk) (h1 : plainB c = true) (hp : pieceF ((c :: r) ++ rest) = c :: r) (ht : tokF (c :: r) = .ok t) :
    cutL ((c :: r) ++ rest) false p = ((t, p) :: (cutL rest false ⟨p.line, p.col + (r.length + 1)⟩).1, (cutL rest false ⟨p.line, p.col + (r.length + 1)⟩).2) := by
  have h1' : c.toNat < 128 ∧ c ≠ 10 ∧ c ≠ 32 ∧ c ≠ 9 ∧ c ≠ 35 := by
    simp only [plainB, Bool.and_eq_true, decide_eq_true_eq, Bool.not_eq_true', Bool.or_eq_false_iff, beq_eq_false_iff_ne] at h1
    exact ⟨h1.1, h1.2.1.1.1, h1.2.1.1.2, h1.2.1.2, h1.2.2⟩
  obtain ⟨a0, a1, a2, a3, a4⟩ := h1'
  have ne : ∀ d : UInt8, c ≠ d → c.toNat ≠ d.toNat := fun d hd h => hd (UInt8.toNat_inj.1 h)
  have b1 : c.toNat ≠ 10 := ne 10 a1
  have b2 : c.toNat ≠ 32 := ne 32 a2
  have b3 : c.toNat ≠ 9 := ne 9 a3
  have b4 : c.toNat ≠ 35 := ne 35 a4
  have hb : brok ((c :: r) ++ rest) = false := by
    rw [List.cons_append]
    unfold brok
    rw [dec_ascii _ _ a0, beq_eq_false_iff_ne.2 (show c.toNat ≠ 65533 by omega)]; rfl
  have hd : dec ((c :: r) ++ rest) = (c.toNat, 1) := dec_ascii _ _ a0
  have hl : (c :: r).length = r.length + 1 := rfl
  have hdr : (r ++ rest).drop ((c :: r).length - 1) = rest := by
    rw [hl, Nat.add_sub_cancel]; exact List.drop_left
  rw [List.cons_append] at hb hd hp ⊢
  rw [cutL, if_neg (by rw [hb]; decide), hd, if_neg b1, if_neg (by simp [b2, b3]), if_neg b4, hp, ht]
  simp only
  rw [hdr, hl]
theorem cut_space (l : List UInt8) (p : Pl) : cutL (32 :: l) false p = cutL l false ⟨p.line, p.col + 1⟩ := by
  have hb : brok (32 :: l) = false := by unfold brok; rw [dec_ascii _ _ (by decide)]; rfl
  rw [cutL, if_neg (by rw [hb]; decide), dec_ascii _ _ (by decide), if_neg (by decide), if_pos (.inr (.inl rfl))]
  rfl

theorem nDigits_le : ∀ (k u : Nat), u < 10 ^ k → 1 ≤ k → Lib.nDigits u ≤ k
  | 0, _, _, h => by omega
  | k + 1, u, h, _ => by
    by_cases hu : u < 10
    · rw [Lib.nDigits_small hu]; omega
    · rw [Lib.nDigits_big hu]
      have hk : 1 ≤ k := by
        rcases Nat.eq_zero_or_pos k with h0 | h0
        · subst h0; simp at h; omega
        · exact h0
      have := nDigits_le k (u / 10) (by rw [Nat.pow_succ] at h; omega) hk
      omega
theorem dig_all (l : List UInt8) (h : isDigits l) : l.all digB = true := List.all_eq_true.2 fun c hc => by have := h c hc; simp [digB, this]
theorem dropWhile_stop (f : UInt8 → Bool) (a b : List UInt8) (ha : a.all f = true) (hb : b = [] ∨ ∃ c r, b = c :: r ∧ f c = false) : (a ++ b).dropWhile f = b := by
  induction a with
  | nil =>
    rcases hb with rfl | ⟨c, r, rfl, h⟩
    · rfl
    · rw [List.nil_append, List.dropWhile_cons_of_neg (by rw [h]; decide)]
  | cons d a ih =>
    rw [List.all_cons, Bool.and_eq_true] at ha
    rw [List.cons_append, List.dropWhile_cons_of_pos ha.1, ih ha.2]
theorem let_dig {c : UInt8} (h : letB c = true) : digB c = false := by
  simp only [letB, digB, Bool.and_eq_true, decide_eq_true_eq, Bool.and_eq_false_iff, decide_eq_false_iff_not] at h ⊢; omega
theorem dig_let {c : UInt8} (h : digB c = true) : letB c = false := by
  simp only [letB, digB, Bool.and_eq_true, decide_eq_true_eq, Bool.and_eq_false_iff, decide_eq_false_iff_not] at h ⊢; omega
theorem unit_head (u : List UInt8) (h : u = [] ∨ unitF u ≠ none) : u = [] ∨ ∃ c r, u = c :: r ∧ digB c = false := by
  rcases h with rfl | h
  · exact .inl rfl
  · obtain ⟨ps, hps⟩ := Option.ne_none_iff_exists'.1 h
    obtain ⟨h1, h2, _⟩ := unit_all u ps hps
    match u, h2 with
    | c :: r, _ =>
      rw [List.all_cons, Bool.and_eq_true] at h1
      exact .inr ⟨c, r, rfl, let_dig h1.1⟩

/-- A number's text: a sign, perhaps, and digits. -/
theorem itoa_form (n : Int) : ∃ ds, isDigits ds ∧ ds ≠ [] ∧ decV ds = n.natAbs ∧ ds.length = Lib.nDigits n.natAbs ∧ ((n < 0 ∧ Lib.itoa n = 45 :: ds) ∨ (0 ≤ n ∧ Lib.itoa n = ds)) := by
  obtain ⟨d1, d2, d3⟩ := digits_dec n.natAbs
  refine ⟨Lib.decDigits n.natAbs, d1, d3, d2, Lib.decDigits_length _, ?_⟩
  by_cases h : n < 0
  · exact .inl ⟨h, by unfold Lib.itoa; rw [if_pos h]⟩
  · exact .inr ⟨by omega, by unfold Lib.itoa; rw [if_neg h, show n.toNat = n.natAbs by omega]⟩
theorem size_itoa (n : Int) (u : List UInt8) : ∃ ds, isDigits ds ∧ ds ≠ [] ∧ decV ds = n.natAbs ∧ ds.length = Lib.nDigits n.natAbs ∧ sizeF (Lib.itoa n ++ u) = ds ++ u ∧ minusB (Lib.itoa n ++ u) = decide (n < 0) ∧ ∃ c r, Lib.itoa n = c :: r ∧ (c = 45 ∨ digB c = true) ∧ r.all digB = true := by
  obtain ⟨ds, h1, h2, h3, h4, h5⟩ := itoa_form n
  refine ⟨ds, h1, h2, h3, h4, ?_⟩
  match ds, h2 with
  | d :: e, _ =>
    have hall := dig_all _ h1
    rw [List.all_cons, Bool.and_eq_true] at hall
    have hd := h1 d (List.mem_cons_self ..)
    rcases h5 with ⟨h5, h6⟩ | ⟨h5, h6⟩
    · rw [h6]
      refine ⟨rfl, by rw [decide_eq_true h5]; rfl, 45, d :: e, rfl, .inl rfl, by rw [List.all_cons, hall.1, hall.2]; rfl⟩
    · rw [h6]
      have hne : d ≠ 45 := by rintro rfl; exact absurd hd.1 (by decide)
      refine ⟨by rw [List.cons_append, sizeF_cons, if_neg hne], ?_, d, e, rfl, .inr hall.1, hall.2⟩
      rw [decide_eq_false (by omega)]
      exact beq_eq_false_iff_ne.2 hne
theorem val_itoa (n : Int) (u : List UInt8) (hu : u = [] ∨ unitF u ≠ none) : valF (Lib.itoa n ++ u) = n := by
  obtain ⟨ds, h1, h2, h3, h4, h5, h6, _⟩ := size_itoa n u
  unfold valF
  rw [h5, h6, takeWhile_stop digB ds u (dig_all _ h1) (unit_head u hu), h3]
  by_cases h : n < 0
  · rw [decide_eq_true h, if_pos rfl]; omega
  · rw [decide_eq_false h, if_neg (by decide)]; omega
theorem tok_itoa (n : Int) (u : List UInt8) (hn : n.natAbs < 1000000000000000000) (hu : u = [] ∨ unitF u ≠ none) (hs : ∀ ps, unitF u = some ps → -1000000000000000000 < n * ps ∧ n * ps < 1000000000000000000) :
    tokF (Lib.itoa n ++ u) = .ok (match unitF u with | some ps => ⟨2, Lib.itoa n ++ u, n * ps, true⟩ | none => ⟨2, Lib.itoa n ++ u, n, false⟩) := by
  have hv := val_itoa n u hu
  obtain ⟨ds, h1, h2, h3, h4, h5, h6, c, r, h7, h8, h9⟩ := size_itoa n u
  have htw := takeWhile_stop digB ds u (dig_all _ h1) (unit_head u hu)
  have hdw := dropWhile_stop digB ds u (dig_all _ h1) (unit_head u hu)
  have hlen : ds.length ≤ 18 := by rw [h4]; exact nDigits_le 18 _ hn (by omega)
  have hnum : numF (Lib.itoa n ++ u) = .ok (match unitF u with | some ps => ⟨2, Lib.itoa n ++ u, n * ps, true⟩ | none => ⟨2, Lib.itoa n ++ u, n, false⟩) := by
    unfold numF
    rw [h5, htw, hdw, hv, if_neg (by rintro (h | h); exact h2 h; rcases hu with rfl | hu; exact h.1 rfl; exact hu h.2), if_neg (by omega)]
    cases hps : unitF u with
    | none => rfl
    | some ps => simp only; rw [if_pos (hs ps hps)]
  rw [h7, List.cons_append] at hnum ⊢
  have hsg : sgB c = false := by
    rcases h8 with rfl | h8
    · decide
    · simp only [digB, Bool.and_eq_true, decide_eq_true_eq] at h8
      cases hc : sgB c with
      | false => rfl
      | true =>
        simp only [sgB, Bool.or_eq_true, beq_iff_eq] at hc
        rcases hc with (rfl | rfl) | rfl <;> exact absurd h8 (by decide)
  have hlt : letB c = false := by
    rcases h8 with rfl | h8
    · decide
    · exact dig_let h8
  unfold tokF
  simp only
  rw [if_neg (by rintro ⟨_, h⟩; rw [hsg] at h; cases h), if_neg (by simp [wordB, hlt]), if_neg (by rw [hlt]; decide), hnum]
/-- What is cut of a number's text, and what stands behind it. -/
theorem cut_num (n : Int) (u rest : List UInt8) (p : Pl) (t : Tk) (hu : u = [] ∨ unitF u ≠ none) (ht : tokF (Lib.itoa n ++ u) = .ok t) (hr : rest = [] ∨ ∃ d e, rest = d :: e ∧ ldB d = false) :
    cutL ((Lib.itoa n ++ u) ++ rest) false p = ((t, p) :: (cutL rest false ⟨p.line, p.col + (Lib.itoa n ++ u).length⟩).1, (cutL rest false ⟨p.line, p.col + (Lib.itoa n ++ u).length⟩).2) := by
  obtain ⟨ds, h1, h2, h3, h4, h5, h6, c, r, h7, h8, h9⟩ := size_itoa n u
  have hua : u.all ldB = true := by
    rcases hu with rfl | hu
    · rfl
    · obtain ⟨ps, hps⟩ := Option.ne_none_iff_exists'.1 hu
      exact List.all_eq_true.2 fun d hd => by simp [ldB, List.all_eq_true.1 (unit_all u ps hps).1 d hd]
  have hra : (r ++ u).all ldB = true := by
    rw [List.all_append, hua, Bool.and_true]
    exact List.all_eq_true.2 fun d hd => by simp [ldB, List.all_eq_true.1 h9 d hd]
  have hpl : plainB c = true ∧ sgB c = false := by
    rcases h8 with rfl | h8
    · decide
    · simp only [digB, Bool.and_eq_true, decide_eq_true_eq] at h8
      have hx : ∀ d : UInt8, d.toNat < 48 ∨ 57 < d.toNat → (c == d) = false := fun d hd => beq_eq_false_iff_ne.2 (by rintro rfl; omega)
      refine ⟨?_, ?_⟩
      · unfold plainB
        rw [decide_eq_true (by omega : c.toNat < 128), hx 10 (by decide), hx 32 (by decide), hx 9 (by decide), hx 35 (by decide)]; rfl
      · unfold sgB
        rw [hx 59 (by decide), hx 123 (by decide), hx 125 (by decide)]; rfl
  have hc1 : c.toNat < 128 := by have := hpl.1; simp only [plainB, Bool.and_eq_true, decide_eq_true_eq] at this; exact this.1
  rw [h7, List.cons_append] at ht ⊢
  have hp := piece_of c (r ++ u) rest hc1 hpl.2 hra hr
  exact cut_one c (r ++ u) rest p t hpl.1 hp ht
end Go.Proofs.YtkfnkieljcipnaaGreatDoor

/-! PP -/
namespace Go.Proofs.YtkfnkieljcipnaaGreatDoor
open Go

/-- Statements that stand one behind the other: a word, numbers, whether there is a block, those in it, and those behind. -/
inductive Fo where
  | nil : Fo
  | cons (word : List UInt8) (nums : List (Int × Bool)) (block : Bool) (body next : Fo) : Fo
deriving DecidableEq

namespace Fo
def len : Fo → Nat
  | nil => 0
  | cons _ _ _ _ n => n.len + 1
def app : Fo → Fo → Fo
  | nil, g => g
  | cons w ns b y n, g => cons w ns b y (n.app g)
def count : Fo → Nat
  | nil => 0
  | cons _ _ _ y n => 1 + y.count + n.count
def depth : Fo → Nat
  | nil => 0
  | cons _ _ b y n => max (1 + max y.depth (if b then 1 else 0)) n.depth
def flat : Fo → Fo
  | nil => nil
  | cons w ns b y n => cons w ns b nil (y.flat.app n.flat)
theorem app_nil (f : Fo) : f.app nil = f := by
  induction f with
  | nil => rfl
  | cons w ns b y n _ ih => rw [app, ih]
theorem app_assoc (f g h : Fo) : (f.app g).app h = f.app (g.app h) := by
  induction f with
  | nil => rfl
  | cons w ns b y n _ ih => rw [app, app, app, ih]
theorem len_app (f g : Fo) : (f.app g).len = f.len + g.len := by
  induction f with
  | nil => simp [app, len]
  | cons w ns b y n _ ih => rw [app, len, ih, len]; omega
theorem count_app (f g : Fo) : (f.app g).count = f.count + g.count := by
  induction f with
  | nil => simp [app, count]
  | cons w ns b y n _ ih => rw [app, count, ih, count]; omega
theorem depth_app (f g : Fo) : (f.app g).depth = max f.depth g.depth := by
  induction f with
  | nil => simp [app, depth]
  | cons w ns b y n _ ih => rw [app, depth, ih, depth]; omega
theorem flat_app (f g : Fo) : (f.app g).flat = f.flat.app g.flat := by
  induction f with
  | nil => rfl
  | cons w ns b y n _ ih => rw [app, flat, ih, flat, app, app_assoc]
theorem len_flat (f : Fo) : f.flat.len = f.count := by
  induction f with
  | nil => rfl
  | cons w ns b y n ih1 ih2 => rw [flat, len, len_app, ih1, ih2, count]; omega
theorem len_le (f : Fo) : f.len ≤ f.count := by
  induction f with
  | nil => exact Nat.le_refl _
  | cons w ns b y n ih1 ih2 => rw [len, count]; omega
end Fo

/-- What is read: the statements, how many have begun, and what is left; or what is wrong, and what is left there. -/
inductive Res where
  | ok (f : Fo) (many : Nat) (rest : List Tk)
  | bad (e : Nat) (rest : List Tk)

def isW (t : Tk) : Bool := decide (t.kind = 1)
def isN (t : Tk) : Bool := decide (t.kind = 2)
def numT (t : Tk) : Int × Bool := (t.n, t.time)
/-- what is wrong with the token that is next -/
def wrongE : List Tk → Nat
  | [] => 3
  | _ :: _ => 4
def numsF (ts : List Tk) : List (Int × Bool) := (ts.takeWhile isN).map numT
def restF (ts : List Tk) : List Tk := ts.dropWhile isN
def fewN (ts : List Tk) : Bool := decide ((ts.takeWhile isN).length ≤ 8)

section
variable (L : Nat → Nat → List Tk → Res)
/-- a block behind its { : statements, and } -/
def blkF (deep many : Nat) (ts : List Tk) : Res :=
  match L deep many ts with
  | .bad e r => .bad e r
  | .ok f m r => match r with
    | [] => .bad 3 []
    | c :: r3 => if c.kind = 3 ∧ c.s = [125] then .ok f m r3 else .bad 4 (c :: r3)
/-- what follows a word and its numbers -/
def endF (wd : List UInt8) (ns : List (Int × Bool)) (deep many : Nat) (r : List Tk) : Res :=
  match r with
  | [] => .bad 3 []
  | s :: r2 =>
    if s.kind = 1 then .bad 4 (s :: r2)
    else if s.s = [59] then .ok (.cons wd ns false .nil .nil) many r2
    else if s.s = [123] then
      if 6 ≤ deep then .bad 6 (s :: r2)
      else match blkF L (deep + 1) many r2 with
        | .bad e r3 => .bad e r3
        | .ok f m r3 => .ok (.cons wd ns true f .nil) m r3
    else .bad 4 (s :: r2)
/-- a statement, its word apart -/
def stmF (wd : List UInt8) (deep many : Nat) (ts : List Tk) : Res :=
  if fewN ts then endF L wd (numsF ts) deep many (restF ts) else .bad 7 (ts.drop 8)
end

/-- the statements ahead of the first token that begins none -/
def lstF : Nat → Nat → Nat → List Tk → Res
  | 0, _, many, ts => .ok .nil many ts
  | _ + 1, _, many, [] => .ok .nil many []
  | n + 1, deep, many, t :: r =>
    if t.kind = 1 then
      if many = 2000 then .bad 7 (t :: r)
      else match stmF (lstF n) t.s deep (many + 1) r with
        | .bad e r2 => .bad e r2
        | .ok x m r2 => match lstF n deep m r2 with
          | .bad e r3 => .bad e r3
          | .ok f m2 r3 => .ok (x.app f) m2 r3
    else .ok .nil many (t :: r)

def preR (acc : Fo) : Res → Res
  | .ok f m r => .ok (acc.app f) m r
  | .bad e r => .bad e r
theorem preR_nil (x : Res) : preR .nil x = x := by cases x <;> rfl
theorem preR_app (a b : Fo) (x : Res) : preR a (preR b x) = preR (a.app b) x := by
  cases x with
  | ok f m r => simp only [preR, Fo.app_assoc]
  | bad e r => rfl

/-- all of a text's tokens -/
def allF (ts : List Tk) : Res :=
  match lstF ts.length 1 0 ts with
  | .bad e r => .bad e r
  | .ok f m r => match r with
    | [] => .ok f m []
    | c :: r2 => .bad 4 (c :: r2)

/-! ### What is left grows shorter -/
def Short (ts : List Tk) : Res → Prop
  | .ok _ _ r => ∃ p, ts = p ++ r
  | .bad _ r => ∃ p, ts = p ++ r
theorem short_more {p ts : List Tk} {x : Res} (h : Short ts x) : Short (p ++ ts) x := by
  cases x with
  | ok f m r => obtain ⟨q, rfl⟩ := h; exact ⟨p ++ q, by simp⟩
  | bad e r => obtain ⟨q, rfl⟩ := h; exact ⟨p ++ q, by simp⟩
theorem short_bad (e : Nat) (ts : List Tk) : Short ts (.bad e ts) := ⟨[], rfl⟩
theorem short_ok (f : Fo) (m : Nat) (ts : List Tk) : Short ts (.ok f m ts) := ⟨[], rfl⟩
section
variable {L : Nat → Nat → List Tk → Res}
theorem blk_short (hL : ∀ d m ts, Short ts (L d m ts)) (d m : Nat) (ts : List Tk) : Short ts (blkF L d m ts) := by
  have h := hL d m ts
  unfold blkF
  generalize L d m ts = x at h
  match x with
  | .bad e r => exact h
  | .ok f m r =>
    match r with
    | [] => exact h
    | c :: r3 =>
      simp only
      split
      · obtain ⟨p, rfl⟩ := h
        exact ⟨p ++ [c], by simp⟩
      · exact h
theorem end_short (hL : ∀ d m ts, Short ts (L d m ts)) (wd : List UInt8) (ns : List (Int × Bool)) (d m : Nat) (ts : List Tk) : Short ts (endF L wd ns d m ts) := by
  unfold endF
  match ts with
  | [] => exact ⟨[], rfl⟩
  | s :: r2 =>
    simp only
    split
    · exact short_bad _ _
    split
    · exact ⟨[s], rfl⟩
    split
    · split
      · exact short_bad _ _
      · have h := short_more (p := [s]) (blk_short hL (d + 1) m r2)
        generalize blkF L (d + 1) m r2 = x at h
        cases x <;> exact h
    · exact short_bad _ _
theorem stm_short (hL : ∀ d m ts, Short ts (L d m ts)) (wd : List UInt8) (d m : Nat) (ts : List Tk) : Short ts (stmF L wd d m ts) := by
  unfold stmF
  split
  · have h := short_more (p := ts.takeWhile isN) (end_short hL wd (numsF ts) d m (restF ts))
    rwa [restF, List.takeWhile_append_dropWhile] at h
  · exact ⟨ts.take 8, (List.take_append_drop 8 ts).symm⟩
end
theorem lst_short : ∀ (n d m : Nat) (ts : List Tk), Short ts (lstF n d m ts)
  | 0, d, m, ts => short_ok _ _ _
  | n + 1, d, m, [] => short_ok _ _ _
  | n + 1, d, m, t :: r => by
    unfold lstF
    split
    · split
      · exact short_bad _ _
      · have h := short_more (p := [t]) (stm_short (lst_short n) t.s d (m + 1) r)
        generalize stmF (lstF n) t.s d (m + 1) r = x at h
        match x with
        | .bad e r2 => exact h
        | .ok x m r2 =>
          obtain ⟨p, hp⟩ := h
          have h2 := short_more (p := p) (lst_short n d m r2)
          rw [← hp] at h2
          simp only
          generalize lstF n d m r2 = y at h2
          cases y <;> exact h2
    · exact short_ok _ _ _

/-! ### How many have begun -/
def Many (m0 : Nat) : Res → Prop
  | .ok f m _ => m = m0 + f.count ∧ (m0 ≤ 2000 → m ≤ 2000)
  | .bad _ _ => True
section
variable {L : Nat → Nat → List Tk → Res}
theorem blk_many (hL : ∀ d m ts, Many m (L d m ts)) (d m : Nat) (ts : List Tk) : Many m (blkF L d m ts) := by
  have h := hL d m ts
  unfold blkF
  generalize L d m ts = x at h
  match x with
  | .bad e r => trivial
  | .ok f m r =>
    match r with
    | [] => trivial
    | c :: r3 =>
      simp only
      split
      · exact h
      · trivial
theorem end_one (hL : ∀ d m ts, Many m (L d m ts)) {wd : List UInt8} {ns : List (Int × Bool)} {d m : Nat} {ts : List Tk} {f : Fo} {m2 : Nat} {r : List Tk} (h : endF L wd ns d (m + 1) ts = .ok f m2 r) : f.len = 1 ∧ m2 = m + f.count ∧ (m + 1 ≤ 2000 → m2 ≤ 2000) := by
  unfold endF at h
  match ts with
  | [] => cases h
  | s :: r2 =>
    simp only at h
    split at h
    · cases h
    split at h
    · cases h
      exact ⟨rfl, by simp [Fo.count], fun h => h⟩
    split at h
    · split at h
      · cases h
      · have hb := blk_many hL (d + 1) (m + 1) r2
        revert h hb
        generalize blkF L (d + 1) (m + 1) r2 = x
        match x with
        | .bad e r => intro h; cases h
        | .ok f m2 r =>
          intro h hb
          cases h
          exact ⟨rfl, by simp only [Fo.count]; have := hb.1; omega, hb.2⟩
    · cases h
theorem stm_one (hL : ∀ d m ts, Many m (L d m ts)) {wd : List UInt8} {d m : Nat} {ts : List Tk} {f : Fo} {m2 : Nat} {r : List Tk} (h : stmF L wd d (m + 1) ts = .ok f m2 r) : f.len = 1 ∧ m2 = m + f.count ∧ (m + 1 ≤ 2000 → m2 ≤ 2000) := by
  unfold stmF at h
  split at h
  · exact end_one hL h
  · cases h
end
theorem lst_many : ∀ (n d m : Nat) (ts : List Tk), Many m (lstF n d m ts)
  | 0, d, m, ts => ⟨by simp [Fo.count], fun h => h⟩
  | n + 1, d, m, [] => ⟨by simp [Fo.count], fun h => h⟩
  | n + 1, d, m, t :: r => by
    unfold lstF
    split
    · split
      · trivial
      · rename_i hm
        have h : ∀ x, stmF (lstF n) t.s d (m + 1) r = x → Many m (match x with
          | .bad e r2 => .bad e r2
          | .ok x m r2 => match lstF n d m r2 with
            | .bad e r3 => .bad e r3
            | .ok f m2 r3 => .ok (x.app f) m2 r3) := by
          intro x hx
          match x with
          | .bad e r2 => trivial
          | .ok x m1 r2 =>
            have h1 := stm_one (fun d m ts => lst_many n d m ts) hx
            have h2 := lst_many n d m1 r2
            simp only
            generalize lstF n d m1 r2 = y at h2
            match y with
            | .bad e r3 => trivial
            | .ok f m2 r3 => exact ⟨by rw [Fo.count_app, h2.1]; omega, fun h => h2.2 (h1.2.2 (by omega))⟩
        exact h _ rfl
    · exact ⟨by simp [Fo.count], fun h => h⟩
end Go.Proofs.YtkfnkieljcipnaaGreatDoor
