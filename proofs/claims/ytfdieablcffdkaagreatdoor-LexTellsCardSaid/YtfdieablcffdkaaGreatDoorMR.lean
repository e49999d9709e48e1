/-
  The contract of the document's own runes (palletref14.runes): each rune of a text with its byte, its bytes and its place; and their end; under: utf8's tables hold what the program lays (LaidW); texts of at most 2^20 bytes.
-/
import Derived.Test.YtfdieablcffdkaaGreatDoorLQ
import Derived.Test.YtfdieablcffdkaaGreatDoorLK
namespace Go.Proofs.YtfdieablcffdkaaGreatDoor
open Go Go.RowKit Go.Joins

/-- A rune of a text. -/
structure Rn where
  c : Int
  at_ : Int
  many : Int
  p : Pl
  bad : Bool
def encR (x : Rn) : List Value := [.int .i32 x.c, .int .i64 x.at_, .int .i64 x.many, .int .i64 x.p.line, .int .i64 x.p.col, .bool x.bad]
def rnS : Sh Tryz.prog Rn where
  enc := encR
  N := 6
  T := 54
  S := 51
  by_ := 48
  z := ⟨0, 0, 0, ⟨0, 0⟩, false⟩
  d := _
  len := fun _ => rfl
  pos := by omega
  one := by intro x u hu; simp [encR] at hu; rcases hu with rfl | rfl | rfl | rfl | rfl | rfl <;> rfl
  undS := Tryz.underlying51
  undT := Tryz.underlying54
  isRow := rfl
  info := by kernel_rfl
  size := by kernel_rfl
  zero := fun w => by kernel_rfl
  small := by omega
  smallN := by omega
/-- the bytes of a rune have its place -/
def GoodR (l : List UInt8) (x : Rn) : Prop := (0 ≤ x.at_ ∧ x.at_ ≤ (l.length : Nat) ∧ 0 ≤ x.many ∧ x.many ≤ (l.length : Nat) + 1) ∧ ∀ b : Nat, x.at_ ≤ b → (b : Int) < x.at_ + x.many → plAt l firstP b = x.p
/-- every byte below pos is some rune's -/
def Cover (rs : List Rn) (pos : Nat) : Prop := ∀ b : Nat, b < pos → ∃ x ∈ rs, x.at_ ≤ b ∧ (b : Int) < x.at_ + x.many
theorem good_rune {l : List UInt8} {pos : Nat} {here : Pl} (h : AtP l pos here) {c : UInt8} {r : List UInt8} (hd : l.drop pos = c :: r) (x : Int) (b : Bool) : GoodR l ⟨x, pos, ((dec (c :: r)).2 : Nat), here, b⟩ := by
  have hl : l.length - pos = r.length + 1 := by have := congrArg List.length hd; rw [List.length_drop] at this; simpa using this
  have hle := dec_le c r
  refine ⟨⟨by show (0 : Int) ≤ (pos : Nat); omega, by show ((pos : Nat) : Int) ≤ _; omega, by show (0 : Int) ≤ ((dec (c :: r)).2 : Nat); omega, by show (((dec (c :: r)).2 : Nat) : Int) ≤ _; omega⟩, ?_⟩
  intro b h1 h2
  have h1 : pos ≤ b := by simpa using h1
  obtain ⟨a, rfl⟩ : ∃ a, b = pos + a := ⟨b - pos, by omega⟩
  rw [h.1, plAt_step l pos c r hd, if_pos (by simp at h2; omega)]
theorem good_end {l : List UInt8} {here : Pl} (h : AtP l l.length here) : GoodR l ⟨0, (l.length : Nat), 1, here, false⟩ := by
  refine ⟨⟨by show (0 : Int) ≤ (l.length : Nat); omega, Int.le_refl _, by show (0 : Int) ≤ 1; omega, by show (1 : Int) ≤ _; omega⟩, ?_⟩
  intro b h1 h2
  have h1 : l.length ≤ b := by simpa using h1
  have h2 : b < l.length + 1 := by simp at h2; omega
  obtain rfl : b = l.length := by omega
  have := h.1 0
  rw [Nat.add_zero, List.drop_length, plAt] at this
  exact this
theorem cover_snoc {rs : List Rn} {pos n : Nat} (h : Cover rs pos) (x : Int) (p : Pl) (b : Bool) : Cover (rs ++ [⟨x, pos, (n : Nat), p, b⟩]) (pos + n) := by
  intro k hk
  by_cases h1 : k < pos
  · obtain ⟨y, hy, h2⟩ := h k h1
    exact ⟨y, List.mem_append_left _ hy, h2⟩
  · exact ⟨_, List.mem_append_right _ (List.mem_singleton.2 rfl), by simp; omega, by simp; omega⟩

theorem extract_end (s : ByteArray) (k : Nat) : (s.extract k s.size).data.toList = s.data.toList.drop k := by
  rw [ByteArray.data_extract, Array.toList_extract, List.extract_eq_take_drop]
  exact List.take_of_length_le (by rw [List.length_drop]; exact Nat.le_refl _)
theorem dec_ext (s : ByteArray) (k : Nat) (h : k < s.size) : Lib.decodeGo (s.extract k s.size) = dec (s.data.toList.drop k) := by
  have h1 := dec_of (s.extract k s.size) 0
  rw [List.drop_zero, extract_end] at h1
  unfold Lib.decodeGo
  rw [if_neg (by rw [ByteArray.size_extract]; omega), h1]
theorem pl_col {w : World} {g : Nat} {p : Pl} {z : Int} (v : Nat) (hz : z = (v : Nat)) (h : plS.Var w g p) : plS.Var (w.setCell ⟨g, 1, none⟩ (.int .i64 z)) g ⟨p.line, v⟩ ∧ Below g w (w.setCell ⟨g, 1, none⟩ (.int .i64 z)) ∧ Oth g w (w.setCell ⟨g, 1, none⟩ (.int .i64 z)) := by
  subst hz
  show plS.Var (w.setCells g 1 [.int .i64 (v : Nat)]) g _ ∧ Below g w (w.setCells g 1 [.int .i64 (v : Nat)]) ∧ Oth g w (w.setCells g 1 [.int .i64 (v : Nat)])
  have h0 : w.rangeAt g 0 [.int .i64 p.line] := fun j u hj => by
    obtain rfl : j = 0 := by have := (List.getElem?_eq_some_iff.1 hj).1; simp at this; exact this
    exact h.1 0 u hj
  have a0 := World.rangeAt_setCells_apart h0 g 1 [.int .i64 (v : Nat)] (.inr (.inl (by simp)))
  have a1 := World.rangeAt_setCells_same w g 1 [.int .i64 (v : Nat)] (fun j hj => by
    obtain rfl : j = 0 := by simp at hj; exact hj
    exact h.2 1 (by show 1 < 2; omega))
  refine ⟨⟨fun j u hj => ?_, World.there_setCells h.2 g 1 _⟩, (setCells_oth g _ _ _).1, (setCells_oth g _ _ _).2⟩
  match j, hj with
  | 0, hj => exact a0 0 u hj
  | 1, hj => exact a1 0 u hj
set_option maxHeartbeats 2000000 in
set_option maxRecDepth 100000 in
theorem runes_any (s : ByteArray) (w : World) (hL : LaidW w) (hs : s.size ≤ 65536) :
    Calls Tryz.prog 26 #[.string s] w fun e w' => ∃ A n c rs, e = .returned (.slice A n c) ∧ n ≤ 65537 ∧ rnS.Ow w' w.heap.size A n c rs ∧ (∀ x ∈ rs, GoodR s.data.toList x) ∧ Cover rs (s.size + 1) ∧ Below w.heap.size w w' := by
  have HL := hid hL
  have hsl : s.data.toList.length = s.size := rfl
  clear hL
  go_enter Tryz.func26, Tryz.ntmps26
  go_wp2_with (first
    | (refine Sh.wp_sv plS (x := firstP) rfl (.tmp 4) (.tmp 8) rfl rfl (by rfl) q1 ?_; intro w2 q2 b2 o2 s2; have B2 := hid (b1.trans (b2.mono (Nat.le_refl _))); have V2 := hid q2; clear q1 q2 b1 b2 o2)
    | (refine Sh.wp_al plS rfl rfl ?_; intro w1 q1 b1 s1))
  have hg : w.heap.size < w2.heap.size := V2.out.lt
  have hg1 : w2.heap.size = w.heap.size + 1 := s2.out.trans s1.out
  generalize hgg : w.heap.size = g at *
  go_loopw [3, 5] (fun v3 v5 wr => ∃ (n pos c : Nat) (A : Option Addr) (rs : List Rn) (p : Pl), v3 = .slice A n c ∧ v5 = .int .i64 (pos : Nat) ∧ pos ≤ s.size ∧ n ≤ pos ∧ (p.line ≤ pos + 1 ∧ p.col ≤ pos + 1) ∧ AtP s.data.toList pos p ∧ plS.Var wr g p ∧ rnS.Ow wr (g + 1) A n c rs ∧ (∀ x ∈ rs, GoodR s.data.toList x) ∧ Cover rs pos ∧ Below g w wr) (fun _ v5 _ => s.size - (intOf v5).toNat)
  case atStart => exact ⟨0, 0, 0, none, [], firstP, rfl, rfl, Nat.zero_le _, Nat.le_refl _, ⟨by decide, by decide⟩, AtP.zero _, V2.out, Sh.Ow.nil _ _, (fun x hx => by cases hx), (fun b hb => absurd hb (by omega)), B2.out⟩
  case round =>
    obtain ⟨n, pos, c, A, rs, p, rfl, rfl, hp, hn, hpb, hat, hv, how, hgo, hco, hbel⟩ := hrel
    have BW := hid hbel
    have V := hid hv
    have OW := hid how
    have HG := hid hgo
    have HC := hid hco
    have HA := hid hat
    have HLw := hid (HL.out.below (by rw [hgg]; exact hbel))
    have hgw : g < wr.heap.size := hv.lt
    have c0 : wr.cell? ⟨g, 0, none⟩ = some (.int .i64 p.line) := hv.cell (j := 0) rfl
    have c1 : wr.cell? ⟨g, 1, none⟩ = some (.int .i64 p.col) := hv.cell (j := 1) rfl
    clear hgo hco hat hv how hbel V2 B2
    by_cases hlt : pos < s.size
    · obtain ⟨ch, r, hd, _⟩ := drop_cons (l := s.data.toList) (k := pos) (by simpa using hlt)
      have hdec := dec_ext s pos hlt
      rw [hd] at hdec
      have HDC := hid (fun w (h : LaidW w) => by have := Tryz.utf8_DecodeRuneInString (s.extract pos s.size) w h.utf; rwa [hdec] at this)
      have hst := HA.out.step hd
      have hgd := fun x b => good_rune HA.out hd x b
      have h3 := dec_pos (ch :: r)
      have h4 := dec_le ch r
      have h5 := dec_top (ch :: r)
      have hlen : s.size = pos + (r.length + 1) := by
        have := congrArg List.length hd
        rw [List.length_drop] at this
        simp only [List.length_cons] at this
        omega
      clear hd hdec
      generalize (dec (ch :: r)).1 = x at *
      generalize (dec (ch :: r)).2 = m at *
      have HST := hid hst
      have HGD := hid hgd
      clear hst hgd
      have hle : pos + m ≤ s.size := by omega
      have hcol := hpb.2
      have hlin := hpb.1
      clear hlen h4 hpb
      by_cases hff : x = 65533
      · have hff' : ((x : Int) == 65533) = true := beq_iff_eq.2 (by omega)
        have hx10 : x ≠ 10 := by omega
        have HX10 := hid hx10
        have h10' : ((x : Int) == 10) = false := beq_eq_false_iff_ne.2 (by omega)
        clear hff hx10
        go_wp2_with (first
        | (refine Sh.wp_push rnS (A := A) (c := c) (l := rs) (base := g + 1) (x := ⟨x, pos, m, p, ((m : Int) == 1)⟩) rfl (.tmp 20) (.tmp 32) rfl rfl (O4.out.alloc _) rfl (range_new w4 _ _) (by omega) (Nat.le_trans hg4 (by simp)) ?_; intro A6 c6 w6 own6 gr6; have O6 := hid own6; have B46 := hid (((Below.refl _ _).alloc hg4 _).trans (Sh.grown_below rnS (O4.out.alloc _) (Nat.le_trans hg4 (by simp)) gr6)); have V6 := hid (V4.out.below B46.out (Nat.lt_succ_self g)); have B6 := hid (B4.out.trans (B46.out.mono (Nat.le_succ g))); have c0 : w6.cell? ⟨g, 0, none⟩ = some (.int .i64 p.line) := V6.out.cell (j := 0) rfl; have c1 : w6.cell? ⟨g, 1, none⟩ = some (.int .i64 p.col) := V6.out.cell (j := 1) rfl; have f1 : w6.frozen? ⟨g, 1, none⟩ = false := V6.out.free (j := 1) (by show 1 < 2; omega); clear own6 gr6)
        | (go_at_call 44; (with_reducible refine (HDC.out wr HLw.out).mono ?_); rintro e w4 ⟨rfl, g4⟩; have O4 := hid (OW.out.below g4); have V4 := hid (V.out.keep g4); have hg4 : g + 1 ≤ w4.heap.size := Nat.le_trans hgw g4.size; have c0 : w4.cell? ⟨g, 0, none⟩ = some (.int .i64 p.line) := V4.out.cell (j := 0) rfl; have c1 : w4.cell? ⟨g, 1, none⟩ = some (.int .i64 p.col) := V4.out.cell (j := 1) rfl; have B4 := hid (BW.out.trans (g4.mono (Nat.le_of_lt hgw))); clear g4))
        go_roundw
        case rel => exact ⟨n + 1, pos + m, c6, A6, rs ++ [⟨x, pos, m, p, ((m : Int) == 1)⟩], ⟨p.line, p.col + 1⟩, rfl, by go_num, hle, by omega, ⟨by show p.line ≤ _; omega, by show p.col + 1 ≤ _; omega⟩, by have := HST.out; rwa [show behindP p x = ⟨p.line, p.col + 1⟩ from if_neg HX10.out] at this, (pl_col (z := (p.col : Int) + 1) (p.col + 1) rfl V6.out).1, O6.out.oth (pl_col (z := (p.col : Int) + 1) (p.col + 1) rfl V6.out).2.2 (Nat.lt_succ_self g), (fun y hy => by
          rcases List.mem_append.1 hy with h | h
          · exact HG.out y h
          · rw [List.mem_singleton.1 h]; exact HGD.out _ _), cover_snoc HC.out _ _ _, B6.out.trans (pl_col (z := (p.col : Int) + 1) (p.col + 1) rfl V6.out).2.1⟩
        case measure => simp [intOf]; omega
      · have hff' : ((x : Int) == 65533) = false := beq_eq_false_iff_ne.2 (by omega)
        by_cases h10 : x = 10
        · have h10' : ((x : Int) == 10) = true := beq_iff_eq.2 (by omega)
          have H10 := hid h10
          clear h10 hff
          go_wp2_with (first
        | (refine Sh.wp_sv plS (x := ⟨p.line + 1, 1⟩) rfl (.tmp 4) (.tmp 43) rfl rfl rfl (pl_col (z := (p.col : Int) + 1) (p.col + 1) rfl V6.out).1 ?_; intro w8 q8 b8 o8 s8; have Q8 := hid q8; have E8 := hid b8; have R8 := hid o8; clear q8 b8 o8)
        | (refine Sh.wp_push rnS (A := A) (c := c) (l := rs) (base := g + 1) (x := ⟨x, pos, m, p, false⟩) rfl (.tmp 20) (.tmp 32) rfl rfl (O4.out.alloc _) rfl (range_new w4 _ _) (by omega) (Nat.le_trans hg4 (by simp)) ?_; intro A6 c6 w6 own6 gr6; have O6 := hid own6; have B46 := hid (((Below.refl _ _).alloc hg4 _).trans (Sh.grown_below rnS (O4.out.alloc _) (Nat.le_trans hg4 (by simp)) gr6)); have V6 := hid (V4.out.below B46.out (Nat.lt_succ_self g)); have B6 := hid (B4.out.trans (B46.out.mono (Nat.le_succ g))); have c0 : w6.cell? ⟨g, 0, none⟩ = some (.int .i64 p.line) := V6.out.cell (j := 0) rfl; have c1 : w6.cell? ⟨g, 1, none⟩ = some (.int .i64 p.col) := V6.out.cell (j := 1) rfl; have f1 : w6.frozen? ⟨g, 1, none⟩ = false := V6.out.free (j := 1) (by show 1 < 2; omega); clear own6 gr6)
        | (go_at_call 44; (with_reducible refine (HDC.out wr HLw.out).mono ?_); rintro e w4 ⟨rfl, g4⟩; have O4 := hid (OW.out.below g4); have V4 := hid (V.out.keep g4); have hg4 : g + 1 ≤ w4.heap.size := Nat.le_trans hgw g4.size; have c0 : w4.cell? ⟨g, 0, none⟩ = some (.int .i64 p.line) := V4.out.cell (j := 0) rfl; have c1 : w4.cell? ⟨g, 1, none⟩ = some (.int .i64 p.col) := V4.out.cell (j := 1) rfl; have B4 := hid (BW.out.trans (g4.mono (Nat.le_of_lt hgw))); clear g4))
          go_roundw
          case rel => exact ⟨n + 1, pos + m, c6, A6, rs ++ [⟨x, pos, m, p, false⟩], ⟨p.line + 1, 1⟩, rfl, by go_num, hle, by omega, ⟨by show p.line + 1 ≤ _; omega, by show 1 ≤ _; omega⟩, by have := HST.out; rwa [show behindP p x = ⟨p.line + 1, 1⟩ from if_pos H10.out] at this, Q8.out, (O6.out.oth (pl_col (z := (p.col : Int) + 1) (p.col + 1) rfl V6.out).2.2 (Nat.lt_succ_self g)).oth R8.out (Nat.lt_succ_self g), (fun y hy => by
            rcases List.mem_append.1 hy with h | h
            · exact HG.out y h
            · rw [List.mem_singleton.1 h]; exact HGD.out _ _), cover_snoc HC.out _ _ _, (B6.out.trans (pl_col (z := (p.col : Int) + 1) (p.col + 1) rfl V6.out).2.1).trans E8.out⟩
          case measure => simp [intOf]; omega
        · have h10' : ((x : Int) == 10) = false := beq_eq_false_iff_ne.2 (by omega)
          go_wp2_with (first
        | (refine Sh.wp_push rnS (A := A) (c := c) (l := rs) (base := g + 1) (x := ⟨x, pos, m, p, false⟩) rfl (.tmp 20) (.tmp 32) rfl rfl (O4.out.alloc _) rfl (range_new w4 _ _) (by omega) (Nat.le_trans hg4 (by simp)) ?_; intro A6 c6 w6 own6 gr6; have O6 := hid own6; have B46 := hid (((Below.refl _ _).alloc hg4 _).trans (Sh.grown_below rnS (O4.out.alloc _) (Nat.le_trans hg4 (by simp)) gr6)); have V6 := hid (V4.out.below B46.out (Nat.lt_succ_self g)); have B6 := hid (B4.out.trans (B46.out.mono (Nat.le_succ g))); have c0 : w6.cell? ⟨g, 0, none⟩ = some (.int .i64 p.line) := V6.out.cell (j := 0) rfl; have c1 : w6.cell? ⟨g, 1, none⟩ = some (.int .i64 p.col) := V6.out.cell (j := 1) rfl; have f1 : w6.frozen? ⟨g, 1, none⟩ = false := V6.out.free (j := 1) (by show 1 < 2; omega); clear own6 gr6)
        | (go_at_call 44; (with_reducible refine (HDC.out wr HLw.out).mono ?_); rintro e w4 ⟨rfl, g4⟩; have O4 := hid (OW.out.below g4); have V4 := hid (V.out.keep g4); have hg4 : g + 1 ≤ w4.heap.size := Nat.le_trans hgw g4.size; have c0 : w4.cell? ⟨g, 0, none⟩ = some (.int .i64 p.line) := V4.out.cell (j := 0) rfl; have c1 : w4.cell? ⟨g, 1, none⟩ = some (.int .i64 p.col) := V4.out.cell (j := 1) rfl; have B4 := hid (BW.out.trans (g4.mono (Nat.le_of_lt hgw))); clear g4))
          go_roundw
          case rel => exact ⟨n + 1, pos + m, c6, A6, rs ++ [⟨x, pos, m, p, false⟩], ⟨p.line, p.col + 1⟩, rfl, by go_num, hle, by omega, ⟨by show p.line ≤ _; omega, by show p.col + 1 ≤ _; omega⟩, by have := HST.out; rwa [show behindP p x = ⟨p.line, p.col + 1⟩ from if_neg h10] at this, (pl_col (z := (p.col : Int) + 1) (p.col + 1) rfl V6.out).1, O6.out.oth (pl_col (z := (p.col : Int) + 1) (p.col + 1) rfl V6.out).2.2 (Nat.lt_succ_self g), (fun y hy => by
            rcases List.mem_append.1 hy with h | h
            · exact HG.out y h
            · rw [List.mem_singleton.1 h]; exact HGD.out _ _), cover_snoc HC.out _ _ _, B6.out.trans (pl_col (z := (p.col : Int) + 1) (p.col + 1) rfl V6.out).2.1⟩
          case measure => simp [intOf]; omega
    · obtain rfl : pos = s.size := by omega
      have hg4 : g + 1 ≤ wr.heap.size := hgw
      have HE := hid (good_end (l := s.data.toList) (here := p) HA.out)
      have HCE := hid (cover_snoc (n := 1) HC.out 0 p false)
      go_wp2_with (first
        | (refine Sh.wp_push rnS (A := A) (c := c) (l := rs) (base := g + 1) (x := ⟨0, s.size, 1, p, false⟩) rfl (.tmp 47) (.tmp 52) rfl rfl (OW.out.alloc _) rfl (range_new wr _ _) (by omega) (Nat.le_trans hg4 (by simp)) ?_; intro A6 c6 w6 own6 gr6; have O6 := hid own6; have B46 := hid (((Below.refl _ _).alloc hg4 _).trans (Sh.grown_below rnS (OW.out.alloc _) (Nat.le_trans hg4 (by simp)) gr6)); have B6 := hid (BW.out.trans (B46.out.mono (Nat.le_succ g))); clear own6 gr6))
      go_ret
      exact ⟨A6, n + 1, c6, _, rfl, by omega, by rw [hgg]; exact O6.out.base_le (Nat.le_succ g), (fun y hy => by
        rcases List.mem_append.1 hy with h | h
        · exact HG.out y h
        · rw [List.mem_singleton.1 h]; exact HE.out), HCE.out, by rw [hgg]; exact B6.out⟩
end Go.Proofs.YtfdieablcffdkaaGreatDoor
