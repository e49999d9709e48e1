/-
  The contract of lex.Join: tokens' texts, a space between each two; or that one has none; under: the tables hold what the program lays (LaidW); at most 65536 tokens of at most 65536 bytes each.
-/
import Derived.Test.YtfdieablcffdkaaGreatDoorLT
import Derived.Test.YtfdieablcffdkaaGreatDoorLU
import Derived.Lib.Join
namespace Go.Proofs.YtfdieablcffdkaaGreatDoor
open Go Go.RowKit Go.Joins

def txt (t : Tk) : List UInt8 := (textF t).getD []
def joinT (ts : List Tk) : List UInt8 := Lib.join (ts.map txt) [32]
def allT (ts : List Tk) : Bool := ts.all (fun t => (textF t).isSome)
def joinR (ts : List Tk) : Value := if allT ts = true then .tuple #[.string (bA (joinT ts)), .int .i64 0] else .tuple #[.string ⟨#[]⟩, .int .i64 1]

theorem num_len (n : Int) (time : Bool) (h : smallI n = true) : (numT n time).length ≤ 22 := by
  have h : -1000000000000000000 < n ∧ n < 1000000000000000000 := by simpa [smallI] using h
  have key : ∀ m : Int, m.natAbs < 1000000000000000000 → (Lib.itoa m).length ≤ 19 := by
    intro m hm
    obtain ⟨ds, _, _, _, d4, d5⟩ := itoa_form m
    have d6 := nDigits_le 18 m.natAbs hm (by omega)
    rcases d5 with ⟨_, d5⟩ | ⟨_, d5⟩
    · rw [d5, List.length_cons]; omega
    · rw [d5]; omega
  unfold numT
  split
  · have h2 : (unitOf n).1.length ≤ 2 := by
      unfold unitOf
      repeat' split
      all_goals decide
    have h3 : (n.tdiv (unitOf n).2).natAbs ≤ n.natAbs := by
      rw [Int.natAbs_tdiv]; exact Nat.div_le_self _ _
    have h4 := key (n.tdiv (unitOf n).2) (by omega)
    rw [List.length_append]; omega
  · have h4 := key n (by omega)
    omega
theorem txt_len (t : Tk) : (txt t).length ≤ t.s.length + 22 := by
  unfold txt textF
  repeat' split
  all_goals simp
  · rename_i h
    have := num_len t.n t.time h.2
    omega
theorem lens_le : ∀ (ts : List Tk) (m : Nat), (∀ t ∈ ts, t.s.length ≤ m) → Lib.lens (ts.map txt) ≤ ts.length * (m + 22)
  | [], m, _ => by simp [Lib.lens]
  | t :: ts, m, h => by
    have h1 := lens_le ts m (fun u hu => h u (List.mem_cons_of_mem _ hu))
    have h2 := h t (List.mem_cons_self ..)
    have h3 := txt_len t
    simp only [Lib.lens, List.map_cons, List.sum_cons, List.length_cons] at h1 ⊢
    rw [Nat.add_mul]
    omega
theorem joinT_len (ts : List Tk) (m : Nat) (h : ∀ t ∈ ts, t.s.length ≤ m) : (joinT ts).length ≤ ts.length * (m + 23) := by
  have h1 := lens_le ts m h
  unfold joinT
  cases ts with
  | nil => simp [Lib.join, List.intercalate]
  | cons t ts =>
    rw [List.map_cons] at h1 ⊢
    rw [Lib.join_length]
    simp only [List.length_map, List.length_cons, List.length_nil] at h1 ⊢
    have : (ts.length + 1) * (m + 23) = (ts.length + 1) * (m + 22) + (ts.length + 1) := by rw [Nat.mul_add (ts.length + 1) (m + 22) 1, Nat.mul_one]
    omega

theorem range_snoc {w : World} {b : Nat} {cs : List Value} {v : Value} (h1 : w.rangeAt b 0 cs) (h2 : w.rangeAt b cs.length [v]) : w.rangeAt b 0 (cs ++ [v]) := by
  intro j u hj
  by_cases h : j < cs.length
  · rw [List.getElem?_append_left h] at hj
    exact h1 j u hj
  · rw [List.getElem?_append_right (by omega)] at hj
    have hu := h2 (j - cs.length) u hj
    rw [show cs.length + (j - cs.length) = 0 + j by omega] at hu
    exact hu
theorem infoS : (Tryz.prog.info? 9).map (fun i => (i.zero, i.size, i.bytes)) = some (some (.string ⟨#[]⟩), 1, 16) := by kernel_rfl
theorem wp_mkS {w : World} {ops : Array Oper} {rest : List Oper} {o : Oper} {a : Act} {Q : Exit → Act → World → Prop} (hg : o.guard = none) (y z : Operand) (ho : o.op = .makeSlice 48 y z) (n : Nat) (hn : n ≤ 1099511627776) (hy : a.eval y = .int .i64 (n : Int)) (hz : a.eval z = .int .i64 (n : Int))
    (h : ∀ w', w'.there w.heap.size 0 n → Below w.heap.size w w' → w.heap.size < w'.heap.size → wpList Tryz.prog ops Q rest (a.put o.dst (.slice (some ⟨w.heap.size, 0, none⟩) n n)) w') : wpList Tryz.prog ops Q (o :: rest) a w := by
  obtain ⟨i, hi0, hi1, hi2, hi3⟩ := info_parts infoS
  refine wpList_make_full (P := Tryz.prog) w hg y z 48 ho w.heap.size 9 i (.string ⟨#[]⟩) 1 Tryz.underlying48 hi0 hi1 hi2 .i64 .i64 (n : Int) (n : Int) n hy hz rfl rfl (by rw [hi3]; omega) (by unfold maxLen; omega) (Nat.le_refl _) fun w' h1 h2 => ?_
  rcases h1.2 with ⟨hv, _⟩ | ⟨g, cap, cur, hv, hb, hgp, hc1, hc2, hc3, hc4⟩
  · cases hv
  · injection hv with e1 e2 e3
    injection e1 with e1
    injection e1 with e1
    subst e1 e3
    refine h w' (fun j hj => ⟨?_, frozen_of_row _ _ _ _ _ hgp⟩) ((Below.refl _ _).grown h2 (Nat.le_refl _) (by intro k hk; cases hk)) (Array.getElem?_eq_some_iff.1 hgp).1
    rw [cell_of_row w' w.heap.size (0 + j) cur _ _ hgp, Array.getElem?_eq_getElem (by omega)]
    rfl
theorem join_call (ts : List Tk) (g n : Nat) (w : World) (hl : ts.length = n) (hn : n ≤ 65536) (hm : ∀ t ∈ ts, t.s.length ≤ 65536) (hr : w.rangeAt g 0 (ts.map fun t => .string (bA (txt t)))) (hg : g < w.heap.size) :
    Calls Tryz.prog 24 #[.slice (some ⟨g, 0, none⟩) n n, .string ⟨#[32]⟩] w fun e w' => e = .returned (.string (bA (joinT ts))) ∧ Below w.heap.size w w' := by
  subst hl
  have hj := joinT_len ts 65536 hm
  cases ts with
  | nil =>
    refine (Tryz.strings_Join_none (some ⟨g, 0, none⟩) 0 ⟨#[32]⟩ w).mono ?_
    rintro e w' ⟨rfl, rfl⟩
    exact ⟨rfl, Below.refl _ _⟩
  | cons t ts =>
    have e1 : ((t :: ts).map fun t => bA (txt t)).length = (t :: ts).length := by simp
    have e2 : ((t :: ts).map fun t => bA (txt t)).map (·.data.toList) = (t :: ts).map txt := by
      rw [List.map_map]; exact List.map_congr_left fun x _ => bA_list _
    have hmul : (t :: ts).length * (65536 + 23) ≤ 65536 * (65536 + 23) := Nat.mul_le_mul_right _ hn
    have h := Tryz.strings_Join g 0 (t :: ts).length ((t :: ts).map fun t => bA (txt t)) ⟨#[32]⟩ w (fun j x hx => hr j (.string x) (by
      rw [List.getElem?_map] at hx ⊢
      obtain ⟨y, hy, rfl⟩ := Option.map_eq_some_iff.1 hx
      rw [hy]; rfl)) hg (by rw [e1]; omega) (by rw [e1]; exact Nat.le_refl _) (by
        rw [e2]
        show (joinT (t :: ts)).length ≤ _
        omega)
    rw [e1, e2] at h
    exact h

set_option maxHeartbeats 1000000 in
set_option maxRecDepth 100000 in
theorem join_any (A : Option Addr) (n c B : Nat) (ts : List Tk) (w : World) (hL : LaidW w) (hr : tkS.Rw w B A n ts) (hB : B ≤ w.heap.size) (hn : n ≤ 65536) (hm : ∀ t ∈ ts, t.s.length ≤ 65536) :
    Calls Tryz.prog 9 #[.slice A n c] w fun e w' => e = .returned (joinR ts) ∧ Below w.heap.size w w' := by
  have HR := hid hr
  have HL := hid hL
  have HM := hid hm
  have HLN := hid hr.1
  clear hr hL hm
  go_enter Tryz.func9, Tryz.ntmps9
  go_wp2_with (first
    | (refine wp_mkS rfl (.tmp 10) (.tmp 10) rfl n (by omega) rfl rfl ?_; intro w1 ht1 hb1 hs1))
  have T1 := hid ht1
  have B1 := hid hb1
  clear ht1 hb1
  have hg1 : w.heap.size < w1.heap.size := hs1
  generalize hgg : w.heap.size = g at *
  go_loopw [14] (fun v14 wr => ∃ k : Nat, v14 = .int .i64 (k : Nat) ∧ k ≤ n ∧ allT (ts.take k) = true ∧ wr.rangeAt g 0 ((ts.take k).map fun t => .string (bA (txt t))) ∧ wr.there g 0 n ∧ Below g w wr ∧ g < wr.heap.size) (fun v14 _ => n - (intOf v14).toNat)
  case atStart => exact ⟨0, rfl, Nat.zero_le _, rfl, fun j v hj => by simp at hj, T1.out, B1.out, hg1⟩
  case round =>
    obtain ⟨k, rfl, hk, hall, hrg, hth, hbel, hgw⟩ := hrel
    have HA := hid hall
    have RG := hid hrg
    have TH := hid hth
    have BW := hid hbel
    have HLw := hid (HL.out.below (by rw [hgg]; exact hbel))
    by_cases hlt : k < n
    · obtain ⟨b, o, rfl, hb, hc⟩ := (HR.out.below (hbel.mono (by omega))).at_ hlt
      have hg : ts[k]? = some (tkS.nth ts k) := Sh.nth_get tkS (by rw [HLN.out]; exact hlt)
      have HT : Hid (ts.take (k + 1) = ts.take k ++ [tkS.nth ts k]) := hid (by rw [List.take_add_one, hg]; rfl)
      have HMM := hid (List.mem_of_getElem? hg)
      have hlm := HM.out _ HMM.out
      generalize tkS.nth ts k = t at *
      have r1 : wr.rangeAt b (o + k * 4) (tkS.enc t) := hc
      have HX := hid (fun w hL => text_any t w hL (by omega))
      have hlk : ((ts.take k).map fun t => Value.string (bA (txt t))).length = k := by simp [HLN.out]; omega
      clear hc hbel hall hrg hth hg hlm
      cases hx : textF t with
      | none =>
        have HF : Hid (joinR ts = .tuple #[.string ⟨#[]⟩, .int .i64 1]) := hid (by
          have : allT ts = false := List.all_eq_false.2 ⟨t, HMM.out, by simp [hx]⟩
          unfold joinR; rw [if_neg (by rw [this]; decide)])
        have e : textR t = .tuple #[.string ⟨#[]⟩, .int .i64 1] := by unfold textR; rw [hx]
        rw [e] at HX
        clear e hx
        go_wp2_with (first
          | (go_at_call 7; refine (HX.out w3 L3.out).mono ?_; rintro e w4 ⟨rfl, g4⟩; have B4 := hid (BW.out.trans ((B3.out.trans (g4.mono B3.out.size)).mono (Nat.le_of_lt hgw))); clear g4)
          | (refine Sh.wp_ld tkS rfl (.tmp 6) rfl rfl q3.1 ?_)
          | (refine Sh.wp_sv tkS (x := t) rfl (.tmp 6) (.tmp 18) rfl rfl (by rfl) q2 ?_; intro w3 q3 b3 o3 _; have B3 := hid (b2.trans (b3.mono (Nat.le_refl _))); have L3 := hid (HLw.out.below B3.out); clear q2 b2 b3 o3)
          | (refine Sh.wp_al tkS rfl rfl ?_; intro w2 q2 b2 s2; clear s2)
          | (refine Sh.wp_ld tkS rfl (.tmp 17) rfl rfl r1 ?_))
        go_ret2
        exact ⟨by rw [HF.out]; rfl, by rw [hgg]; exact B4.out⟩
      | some l =>
        have e : textR t = .tuple #[.string (bA l), .int .i64 0] := by unfold textR; rw [hx]
        rw [e] at HX
        have HTX : Hid (txt t = l) := hid (by unfold txt; rw [hx]; rfl)
        have HA2 : Hid (allT (ts.take (k + 1)) = true) := hid (by
          rw [HT.out]; unfold allT at *; rw [List.all_append, HA.out]; simp [hx])
        clear e hx
        go_wp2_with (first
          | (go_at_call 7; refine (HX.out w3 L3.out).mono ?_; rintro e w4 ⟨rfl, g4⟩; have B34 := hid (B3.out.trans (g4.mono B3.out.size)); have TH4 := hid (there_keep TH.out hgw B34.out); have RG4 := hid (range_keep RG.out hgw B34.out); have B4 := hid (BW.out.trans (B34.out.mono (Nat.le_of_lt hgw))); have hgw4 : g < w4.heap.size := Nat.lt_of_lt_of_le hgw B34.out.size; have hfz : w4.frozen? ⟨g, k, none⟩ = false := (by have := (TH4.out k hlt).2; rwa [Nat.zero_add] at this); obtain ⟨u, hu⟩ : ∃ u, w4.cell? ⟨g, k, none⟩ = some u := (by have := Option.isSome_iff_exists.1 (TH4.out k hlt).1; rwa [Nat.zero_add] at this); clear g4 B34 B3 L3 q3)
          | (refine Sh.wp_ld tkS rfl (.tmp 6) rfl rfl q3.1 ?_)
          | (refine Sh.wp_sv tkS (x := t) rfl (.tmp 6) (.tmp 18) rfl rfl (by rfl) q2 ?_; intro w3 q3 b3 o3 _; have B3 := hid (b2.trans (b3.mono (Nat.le_refl _))); have L3 := hid (HLw.out.below B3.out); clear q2 b2 b3 o3)
          | (refine Sh.wp_al tkS rfl rfl ?_; intro w2 q2 b2 s2; clear s2)
          | (refine Sh.wp_ld tkS rfl (.tmp 17) rfl rfl r1 ?_))
        go_roundw
        case rel =>
          refine ⟨k + 1, by go_num, by omega, HA2.out, ?_, World.there_setCells TH4.out g k [.string (bA l)], B4.out.trans (setCells_oth g [.string (bA l)] k w4).1, by show g < (w4.setCells g k [.string (bA l)]).heap.size; rw [setCells_size]; exact hgw4⟩
          rw [HT.out, List.map_append]
          refine range_snoc (World.rangeAt_setCells_apart RG4.out g k [.string (bA l)] (.inr (.inl (by rw [hlk]; omega)))) ?_
          rw [hlk]
          show (w4.setCells g k [.string (bA l)]).rangeAt g k [.string (bA (txt t))]
          rw [HTX.out]
          refine World.rangeAt_setCells_same w4 g k [.string (bA l)] fun j hj => ?_
          obtain rfl : j = 0 := by simp at hj; exact hj
          exact ⟨by rw [Nat.add_zero, hu]; rfl, by rw [Nat.add_zero]; exact hfz⟩
        case measure => simp [intOf]; omega
    · obtain rfl : k = n := by omega
      have HF : Hid (joinR ts = .tuple #[.string (bA (joinT ts)), .int .i64 0]) := hid (by
        rw [List.take_of_length_le (by rw [HLN.out]; omega)] at hall
        unfold joinR; rw [if_pos hall])
      have HC := hid (fun w2 (h : w2 = wr) => join_call ts g k w2 HLN.out hn HM.out (by rw [h]; have := RG.out; rwa [List.take_of_length_le (by rw [HLN.out]; omega)] at this) (by rw [h]; exact hgw))
      clear hall hrg hth hbel
      go_wp2_with (first
        | (go_at_call 24; (with_reducible refine (HC.out wr rfl).mono ?_); rintro e w2 ⟨rfl, g2⟩; have B2 := hid (BW.out.trans (g2.mono (Nat.le_of_lt hgw))); clear g2))
      go_ret2
      exact ⟨by rw [HF.out]; rfl, by rw [hgg]; exact B2.out⟩
end Go.Proofs.YtfdieablcffdkaaGreatDoor
