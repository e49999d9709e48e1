/-
  LE: Contracts of lex.read, lex.number: a piece that is to be a number (of at most 2^47 bytes); under: the tables hold what the program lays (LaidW).
  LF: Contracts of lex.piece, lex.token: what a text begins with, cut as far as it goes, and what a piece is (of at most 2^47 bytes); token under: the tables hold what the program lays (LaidW).
  LG: The contract of lex.Where: the place of a text's byte (of at most 2^38 bytes), or why not; under: the tables hold what the program lays (LaidW).
  LH: Plain words of lex.Cut's loop: where it has come to (CI), and what each of its ways does to it. No model's run; no condition.
-/
import Derived.Test.YtkfnkieljcipnaaGreatDoorK2
import Derived.Lib.ParseIntBCases
import Derived.Lib.AtoiErrMem
import Derived.Deep.RegionHeld3
import Derived.Deep.RegionWith
import Derived.Deep.DeepCutAuto
import Derived.Lib.OthersKept
/-! LE -/
namespace Go.Proofs.YtkfnkieljcipnaaGreatDoor
open Go Go.RowKit Go.Joins

def smallI (v : Int) : Bool := decide (-1000000000000000000 < v) && decide (v < 1000000000000000000)
theorem small_top {v : Int} (h : smallI v = true) : topB v = true := by
  simp only [smallI, topB, Bool.and_eq_true, decide_eq_true_eq] at h ⊢; omega

theorem parseM (M : Nat) : ∀ (l : List UInt8) (acc : Nat), isDigits l → M = 18446744073709551615 → l.foldl (fun n c => 10 * n + (c.toNat - 48)) acc < 1000000000000000000 → Lib.parseUintM M acc l = .ok (l.foldl (fun n c => 10 * n + (c.toNat - 48)) acc) := by
  intro l
  induction l with
  | nil => intro acc _ _ _; rfl
  | cons c r ih =>
    intro acc hd hM hv
    have hc := hd c (List.mem_cons_self ..)
    have hge : ∀ (r : List UInt8) (a : Nat), a ≤ r.foldl (fun n c => 10 * n + (c.toNat - 48)) a := by
      intro r
      induction r with
      | nil => intro a; exact Nat.le_refl _
      | cons d r ih => intro a; rw [List.foldl_cons]; exact Nat.le_trans (by omega) (ih _)
    rw [List.foldl_cons] at hv ⊢
    have h1 := hge r (10 * acc + (c.toNat - 48))
    rw [Lib.parseUintM, if_pos hc, if_neg (by omega), if_neg (by omega), show acc * 10 + (c.toNat - 48) = 10 * acc + (c.toNat - 48) by omega]
    exact ih _ (fun d hdm => hd d (List.mem_cons_of_mem _ hdm)) hM hv

theorem parse_num (p : List UInt8) (hne : sizeF p ≠ []) (hd : isDigits (sizeF p)) (hl : (sizeF p).length ≤ 18) : Lib.parseIntB 64 p = .ok (valF p) := by
  have htw : (sizeF p).takeWhile digB = sizeF p := takeWhile_all _ _ (List.all_eq_true.2 fun c hc => by have := hd c hc; simp [digB, this])
  have hv := decV_18 _ hd hl
  have hU : Lib.parseUintB 64 (sizeF p) = .ok (decV (sizeF p)) := by
    unfold Lib.parseUintB
    rw [if_neg hne]
    exact parseM _ _ 0 hd (by decide) hv
  unfold valF
  rw [htw]
  match p with
  | [] => exact absurd rfl hne
  | c :: r =>
    by_cases h : c = 45
    · subst h
      have e : sizeF (45 :: r) = r := by rw [sizeF_cons, if_pos rfl]
      rw [e] at hU hv ⊢
      rw [Lib.parseIntB_minus, hU]
      have : minusB (45 :: r) = true := rfl
      rw [this, Lib.signedC, if_neg (by omega), if_pos rfl]
    · have e : sizeF (c :: r) = c :: r := by rw [sizeF_cons, if_neg h]
      rw [e] at hU hv hd ⊢
      have hc := hd c (List.mem_cons_self ..)
      rw [Lib.parseIntB_plain _ _ _ (by omega) (by omega), hU]
      have : minusB (c :: r) = false := beq_eq_false_iff_ne.2 h
      rw [this, Lib.signlessC, if_neg (by omega)]
      rfl

def bA (l : List UInt8) : ByteArray := ⟨l.toArray⟩
theorem bA_data (s : ByteArray) : bA s.data.toList = s := by apply ByteArray.ext; simp [bA]
theorem bA_size (l : List UInt8) : (bA l).size = l.length := by simp [bA, ByteArray.size]
theorem bA_list (l : List UInt8) : (bA l).data.toList = l := rfl
theorem bA_app (a b : List UInt8) : bA (a ++ b) = bA a ++ bA b := by apply ByteArray.ext; rw [ByteArray.data_append]; apply Array.ext'; simp [bA]

theorem read_time (p : List UInt8) (ps : Int) (w : World) (hL : LaidW w) (hu : unitF ((sizeF p).dropWhile digB) = some ps) (hd : (sizeF p).takeWhile digB ≠ []) (h18 : ((sizeF p).takeWhile digB).length ≤ 18) (hsz : p.length ≤ 4611686018427387904) :
    Calls Tryz.prog 114 #[.string (bA p)] w fun e w' => e = .returned (.tuple #[.int .i64 (timV (valF p * ps)), .int .i64 (timE (valF p * ps))]) ∧ Below w.heap.size w w' := by
  have hdg := digs_is (sizeF p)
  have hsl : (sizeF p).length ≤ p.length := by
    cases p with
    | nil => exact Nat.le_refl _
    | cons c r => rw [sizeF_cons]; split <;> simp
  refine read_gen (bA p) (bA (sizeF p)) (bA ((sizeF p).takeWhile digB)) (bA ((sizeF p).dropWhile digB)) (minusB p) ps (valF p) w hL (size_eq p).1 (size_eq p).2 (unit_is hu) ?_ ?_ hdg ?_ ?_ ?_ rfl
  · rw [← bA_app, List.takeWhile_append_dropWhile]
  · exact trim_eq _
  · rw [bA_size]; exact List.length_pos_iff.2 hd
  · rw [bA_size]; omega
  · exact decV_18 _ hdg h18

theorem lread_time (p : List UInt8) (ps : Int) (w : World) (hL : LaidW w) (hu : unitF ((sizeF p).dropWhile digB) = some ps) (hd : (sizeF p).takeWhile digB ≠ []) (h18 : ((sizeF p).takeWhile digB).length ≤ 18) (hsz : p.length ≤ 4611686018427387904) :
    Calls Tryz.prog 98 #[.string (bA p), .bool true] w fun e w' => e = .returned (.tuple #[.int .i64 (timV (valF p * ps)), .bool (smallI (valF p * ps))]) ∧ Below w.heap.size w w' := by
  have HR := hid (read_time p ps w hL hu hd h18 hsz)
  clear hu hd h18 hsz hL
  generalize valF p * ps = v at *
  have HT := hid (show timE v = 0 → smallI (timV v) = smallI v from fun h => by
    unfold timE at h; unfold timV
    split at h
    · rename_i h1; rw [if_pos h1]
    · cases h)
  have HN := hid (show timE v ≠ 0 → smallI v = false from fun h => by
    unfold timE at h
    split at h
    · exact absurd rfl h
    · rename_i h1
      cases hs : smallI v with
      | false => rfl
      | true => exact absurd (small_top hs) h1)
  have hS := fun w => small_any (timV v) w
  have e : (decide (-1000000000000000000 < timV v) && decide (timV v < 1000000000000000000)) = smallI (timV v) := rfl
  rw [e] at hS
  clear e
  generalize timV v = X at *
  generalize timE v = Y at *
  generalize smallI v = B at *
  generalize smallI X = C at *
  have HS := hid hS
  clear hS
  by_cases h : Y = 0
  · have hb := HT.out h
    subst h
    subst hb
    clear HT HN
    go_enter Tryz.func98, Tryz.ntmps98
    go_wp2_with (first
      | (go_at_call 114; refine HR.out.mono ?_; rintro e w1 ⟨rfl, g1⟩)
      | (go_at_call 89; refine (HS.out _).mono ?_; rintro e w2 ⟨rfl, rfl⟩))
    go_ret2
    exact ⟨by simp, g1⟩
  · have hb := HN.out h
    subst hb
    clear HT HN
    have hy : (Y == 0) = false := beq_eq_false_iff_ne.2 h
    go_enter Tryz.func98, Tryz.ntmps98
    go_wp2_with (first
      | (go_at_call 114; refine HR.out.mono ?_; rintro e w1 ⟨rfl, g1⟩)
      | (go_at_call 89; refine (HS.out _).mono ?_; rintro e w2 ⟨rfl, rfl⟩))
    go_ret2
    exact ⟨by simp, g1⟩

theorem lread_num (p : List UInt8) (w : World) (hne : sizeF p ≠ []) (hd : isDigits (sizeF p)) (hl : (sizeF p).length ≤ 18) (hsz : p.length ≤ 4611686018427387904) :
    Calls Tryz.prog 98 #[.string (bA p), .bool false] w fun e w' => e = .returned (.tuple #[.int .i64 (valF p), .bool true]) ∧ Below w.heap.size w w' := by
  have HP := hid (fun w => Tryz.strconv_ParseInt_10_at64_ok (bA p) (by rw [bA_size]; omega) (valF p) (parse_num p hne hd hl) w)
  clear hne hd hl hsz
  generalize valF p = v at *
  go_enter Tryz.func98, Tryz.ntmps98
  go_wp2_with (first
    | (go_at_call 115; refine (HP.out _).mono ?_; rintro e w1 ⟨rfl, hw⟩; have g1 : Below w.heap.size w w1 := (by rcases hw with rfl | ⟨t, rfl⟩ <;> first | exact Below.refl _ _ | exact Lib.bytesWorld_below _ _ _); clear hw))
  go_quiet (fail)
  go_wp2_with fail
  go_ret2
  exact ⟨rfl, bel_drewN g1 _⟩

/-- what a piece is told to be -/
def tokR (r : Except Nat Tk) : Value := match r with
  | .ok t => .tuple #[tkV t, .int .i64 0]
  | .error e => .tuple #[tkV ⟨0, [], 0, false⟩, .int .i64 (e : Int)]

theorem trimp_any (s rest : ByteArray) (w : World) (h1 : Lib.trimPrefix s.data.toList [45] = rest.data.toList) :
    Calls Tryz.prog 95 #[.string s, .string ⟨#[45]⟩] w fun e w' => e = .returned (.string rest) ∧ w' = w := by
  refine (Tryz.strings_TrimPrefix s ⟨#[45]⟩ w).mono ?_
  rintro e w' ⟨rfl, rfl⟩
  have e1 : Lib.trimPrefix s.data.toList (#[45] : Array UInt8).toList = rest.data.toList := h1
  refine ⟨?_, rfl⟩
  show Ending.returned (.string ⟨(Lib.trimPrefix s.data.toList (#[45] : Array UInt8).toList).toArray⟩) = _
  rw [e1, Array.toArray_toList]

theorem ne_emp {l : List UInt8} (h : ¬ l = []) : l.isEmpty = false := by cases l with
  | nil => exact absurd rfl h
  | cons _ _ => rfl
set_option maxRecDepth 100000 in
theorem lnum_any (p : List UInt8) (w : World) (hL : LaidW w) (hsz : p.length ≤ 140737488355328) :
    Calls Tryz.prog 78 #[.string (bA p)] w fun e w' => e = .returned (tokR (numF p)) ∧ Below w.heap.size w w' := by
  obtain ⟨u, hu⟩ : ∃ u, (sizeF p).dropWhile digB = u := ⟨_, rfl⟩
  obtain ⟨d, hd⟩ : ∃ d, (sizeF p).takeWhile digB = d := ⟨_, rfl⟩
  obtain ⟨z, hz⟩ : ∃ z, sizeF p = z := ⟨_, rfl⟩
  have hcat : d ++ u = z := by rw [← hd, ← hu, hz]; exact List.takeWhile_append_dropWhile
  have hzl : z.length ≤ p.length := by
    rw [← hz]
    cases p with
    | nil => exact Nat.le_refl _
    | cons c r => rw [sizeF_cons]; split <;> simp
  have hlen : (z.length : Int) - (u.length : Int) = (d.length : Int) := by rw [← hcat, List.length_append]; omega
  have HT := hid (fun w => trimp_any (bA p) (bA z) w (by rw [← hz]; exact (size_eq p).1))
  have HU := hid (fun w => trim_any (bA z) (bA u) w (by rw [← hu, ← hz]; exact trim_eq _))
  have hsu := bA_size u
  have hsz2 := bA_size z
  have h1 : Hid (numF p = (if d = [] ∨ (u ≠ [] ∧ unitF u = none) then .error 4 else if 18 < d.length then .error 6 else match unitF u with
    | some ps => if -1000000000000000000 < valF p * ps ∧ valF p * ps < 1000000000000000000 then .ok ⟨2, p, valF p * ps, true⟩ else .error 2
    | none => .ok ⟨2, p, valF p, false⟩)) := hid (by subst hu; subst hd; rfl)
  have HL := hid hL
  have HR := hid (fun (hne : d ≠ []) (h18 : d.length ≤ 18) (ps : Int) (hups : unitF u = some ps) w hL => lread_time p ps w hL (by rw [hu]; exact hups) (by rw [hd]; exact hne) (by rw [hd]; exact h18) (by omega))
  have HQ := hid (fun (hne : d ≠ []) (h18 : d.length ≤ 18) (hu0 : u = []) w => lread_num p w (by rw [hz, ← hcat, hu0, List.append_nil]; exact hne) (by have := digs_is (sizeF p); rw [hd] at this; rw [hz, ← hcat, hu0, List.append_nil]; exact this) (by rw [hz, ← hcat, hu0, List.append_nil]; exact h18) (by omega))
  have HCl := hid (fun w => clone_any (bA p) w (by rw [bA_size]; omega))
  have hue : u = [] ↔ (bA u).toList = [] := by rw [ByteArray.toList_eq]; rfl
  have hN : ∃ (kv : Int) (bt : Bool), (∀ w, LaidW w → Calls Tryz.prog 97 #[.string (bA u)] w fun e w' => e = .returned (.tuple #[.int .i64 kv, .bool bt]) ∧ Below w.heap.size w w') ∧ (bt = true ↔ unitF u ≠ none) := by
    cases hus : unitF u with
    | none => exact ⟨0, false, fun w hL => unit_none (bA u) w hL hus, by simp⟩
    | some ps => exact ⟨ps, true, fun w hL => unit_any (unit_is hus) w hL, by simp⟩
  obtain ⟨kv, bt, hN, hbt⟩ := hN
  have HN := hid hN
  have HB : Hid ((bA z).size ≤ 140737488355328 ∧ (bA u).size ≤ (bA z).size) := hid (by rw [hsu, hsz2]; exact ⟨by omega, by rw [← hcat, List.length_append]; omega⟩)
  have HB : Hid ((bA z).size ≤ 140737488355328 ∧ (bA u).size ≤ (bA z).size) := hid (by rw [hsu, hsz2]; exact ⟨by omega, by rw [← hcat, List.length_append]; omega⟩)
  clear hN hL hsz hzl
  rw [hz, hu, hd] at *
  generalize hm1 : (bA z).size = m1 at *
  generalize hm2 : (bA u).size = m2 at *
  have hb1 : m1 ≤ 140737488355328 := HB.out.1
  have hb2 : m2 ≤ m1 := HB.out.2
  clear HB
  have hb1 : m1 ≤ 140737488355328 := HB.out.1
  have hb2 : m2 ≤ m1 := HB.out.2
  clear HB
  have hz0 : Hid (z.length = m1) := hid hsz2.symm
  have hu0 : Hid (u.length = m2) := hid hsu.symm
  clear hsu hsz2 hcat hu hd hz
  by_cases hA : d = []
  · rw [if_pos (.inl hA)] at h1
    have hmm : ((m1 : Int) - m2 == 0) = true := beq_iff_eq.2 (by have := hz0.out; have := hu0.out; rw [hA] at hlen; simp at hlen; omega)
    clear hz0 hu0 hlen hA HR HQ HCl hbt hue
    go_enter Tryz.func78, Tryz.ntmps78
    go_wp2_with (first
      | (refine Sh.wp_sv tkS (x := ⟨0, [], 0, false⟩) rfl (.tmp 2) (.tmp 36) rfl rfl (by rfl) q3 ?_; intro w9 q9 b9 o9 _)
      | (go_at_call 97; refine (HN.out _ (HL.out.below (b1.trans (g2.mono b1.size)))).mono ?_; rintro e w3 ⟨rfl, g3⟩; have q3 := q2.keep g3; have B3 : Hid (Below w.heap.size w w3) := hid ((b1.trans (g2.mono b1.size)).trans (g3.mono (Nat.le_trans b1.size g2.size))); clear q1 q2 g2 g3 b1)
      | (go_at_call 96; refine (HU.out _).mono ?_; rintro e w2 ⟨rfl, g2⟩; have q2 := q1.keep g2)
      | (go_at_call 95; refine (HT.out _).mono ?_; rintro e w' ⟨rfl, rfl⟩)
      | (refine Sh.wp_al tkS rfl rfl ?_; intro w1 q1 b1 s1; clear s1))
    exact bodyPost_ret (results_t1 Tryz.results78 _ rfl q9) rfl ⟨by rw [h1.out]; rfl, B3.out.trans (b9.mono (Nat.le_refl _))⟩
  have hmm : ((m1 : Int) - m2 == 0) = false := beq_eq_false_iff_ne.2 (by have := hz0.out; have := hu0.out; have := List.length_pos_iff.2 hA; omega)
  by_cases hB : u ≠ [] ∧ unitF u = none
  · rw [if_pos (.inr hB)] at h1
    have hue1 : (bA u).toList.isEmpty = false := ne_emp fun h => hB.1 (hue.2 h)
    obtain rfl : bt = false := by
      cases bt with
      | false => rfl
      | true => exact absurd hB.2 (hbt.1 rfl)
    clear hz0 hu0 hlen hA HR HQ HCl hbt hue hB
    go_enter Tryz.func78, Tryz.ntmps78
    go_wp2_with (first
      | (refine Sh.wp_sv tkS (x := ⟨0, [], 0, false⟩) rfl (.tmp 2) (.tmp 36) rfl rfl (by rfl) q3 ?_; intro w9 q9 b9 o9 _)
      | (go_at_call 97; refine (HN.out _ (HL.out.below (b1.trans (g2.mono b1.size)))).mono ?_; rintro e w3 ⟨rfl, g3⟩; have q3 := q2.keep g3; have B3 : Hid (Below w.heap.size w w3) := hid ((b1.trans (g2.mono b1.size)).trans (g3.mono (Nat.le_trans b1.size g2.size))); clear q1 q2 g2 g3 b1)
      | (go_at_call 96; refine (HU.out _).mono ?_; rintro e w2 ⟨rfl, g2⟩; have q2 := q1.keep g2)
      | (go_at_call 95; refine (HT.out _).mono ?_; rintro e w' ⟨rfl, rfl⟩)
      | (refine Sh.wp_al tkS rfl rfl ?_; intro w1 q1 b1 s1; clear s1))
    exact bodyPost_ret (results_t1 Tryz.results78 _ rfl q9) rfl ⟨by rw [h1.out]; rfl, B3.out.trans (b9.mono (Nat.le_refl _))⟩
  rw [if_neg (by intro h; rcases h with h | h; exact hA h; exact hB h)] at h1
  have hBt : (bA u).toList.isEmpty = true ∨ ((bA u).toList.isEmpty = false ∧ bt = true) := by
    by_cases hu1 : u = []
    · exact .inl (List.isEmpty_iff.2 (hue.1 hu1))
    · refine .inr ⟨ne_emp fun h => hu1 (hue.2 h), hbt.2 fun h => hB ⟨hu1, h⟩⟩
  by_cases hC : 18 < d.length
  · rw [if_pos hC] at h1
    have h18 : 18 < (m1 : Int) - m2 := by have := hz0.out; have := hu0.out; omega
    clear hz0 hu0 hlen hA HR HQ HCl hbt hue hB hC
    rcases hBt with hue1 | ⟨hue1, rfl⟩
    · go_enter Tryz.func78, Tryz.ntmps78
      go_wp2_with (first
        | (refine Sh.wp_sv tkS (x := ⟨0, [], 0, false⟩) rfl (.tmp 2) (.tmp 40) rfl rfl (by rfl) q3 ?_; intro w9 q9 b9 o9 _)
        | (go_at_call 97; refine (HN.out _ (HL.out.below (b1.trans (g2.mono b1.size)))).mono ?_; rintro e w3 ⟨rfl, g3⟩; have q3 := q2.keep g3; have B3 : Hid (Below w.heap.size w w3) := hid ((b1.trans (g2.mono b1.size)).trans (g3.mono (Nat.le_trans b1.size g2.size))); clear q1 q2 g2 g3 b1)
        | (go_at_call 96; refine (HU.out _).mono ?_; rintro e w2 ⟨rfl, g2⟩; have q2 := q1.keep g2)
        | (go_at_call 95; refine (HT.out _).mono ?_; rintro e w' ⟨rfl, rfl⟩)
        | (refine Sh.wp_al tkS rfl rfl ?_; intro w1 q1 b1 s1; clear s1))
      exact bodyPost_ret (results_t1 Tryz.results78 _ rfl q9) rfl ⟨by rw [h1.out]; rfl, B3.out.trans (b9.mono (Nat.le_refl _))⟩
    · go_enter Tryz.func78, Tryz.ntmps78
      go_wp2_with (first
        | (refine Sh.wp_sv tkS (x := ⟨0, [], 0, false⟩) rfl (.tmp 2) (.tmp 40) rfl rfl (by rfl) q3 ?_; intro w9 q9 b9 o9 _)
        | (go_at_call 97; refine (HN.out _ (HL.out.below (b1.trans (g2.mono b1.size)))).mono ?_; rintro e w3 ⟨rfl, g3⟩; have q3 := q2.keep g3; have B3 : Hid (Below w.heap.size w w3) := hid ((b1.trans (g2.mono b1.size)).trans (g3.mono (Nat.le_trans b1.size g2.size))); clear q1 q2 g2 g3 b1)
        | (go_at_call 96; refine (HU.out _).mono ?_; rintro e w2 ⟨rfl, g2⟩; have q2 := q1.keep g2)
        | (go_at_call 95; refine (HT.out _).mono ?_; rintro e w' ⟨rfl, rfl⟩)
        | (refine Sh.wp_al tkS rfl rfl ?_; intro w1 q1 b1 s1; clear s1))
      exact bodyPost_ret (results_t1 Tryz.results78 _ rfl q9) rfl ⟨by rw [h1.out]; rfl, B3.out.trans (b9.mono (Nat.le_refl _))⟩
  rw [if_neg hC] at h1
  have h18 : ¬ 18 < (m1 : Int) - m2 := by have := hz0.out; have := hu0.out; omega
  cases hus : unitF u with
  | none =>
    have hu1 : u = [] := Classical.byContradiction fun h => hB ⟨h, hus⟩
    rw [hus] at h1 hbt
    obtain rfl : bt = false := by
      cases bt with
      | false => rfl
      | true => exact absurd rfl (hbt.1 rfl)
    have hue1 := List.isEmpty_iff.2 (hue.1 hu1)
    have HRD := hid (fun w (_ : LaidW w) => HQ.out hA (by omega) hu1 w)
    clear hz0 hu0 hlen hA HR HQ hbt hue hB hC hBt hus hu1
    have h1 : Hid (numF p = .ok ⟨2, p, valF p, false⟩) := h1
    generalize valF p = v at *
    go_enter Tryz.func78, Tryz.ntmps78
    go_wp2_with (first
      | (refine Sh.wp_sv tkS (x := ⟨2, p, v, false⟩) rfl (.tmp 2) (.tmp 54) rfl rfl (by rfl) q5 ?_; intro w9 q9 b9 o9 _)
      | (go_at_call 67; refine (HCl.out _).mono ?_; rintro e w5 ⟨rfl, g5⟩; have q5 := q4.keep g5; have B5 : Hid (Below w.heap.size w w5) := hid (B4.out.trans (g5.mono B4.out.size)); clear q4 g5)
      | (go_at_call 98; refine (HRD.out _ (HL.out.below B3.out)).mono ?_; rintro e w4 ⟨rfl, g4⟩; have q4 := q3.keep g4; have B4 : Hid (Below w.heap.size w w4) := hid (B3.out.trans (g4.mono B3.out.size)); clear q3 g4)
      | (go_at_call 97; refine (HN.out _ (HL.out.below (b1.trans (g2.mono b1.size)))).mono ?_; rintro e w3 ⟨rfl, g3⟩; have q3 := q2.keep g3; have B3 : Hid (Below w.heap.size w w3) := hid ((b1.trans (g2.mono b1.size)).trans (g3.mono (Nat.le_trans b1.size g2.size))); clear q1 q2 g2 g3 b1)
      | (go_at_call 96; refine (HU.out _).mono ?_; rintro e w2 ⟨rfl, g2⟩; have q2 := q1.keep g2)
      | (go_at_call 95; refine (HT.out _).mono ?_; rintro e w' ⟨rfl, rfl⟩)
      | (refine Sh.wp_al tkS rfl rfl ?_; intro w1 q1 b1 s1; clear s1))
    exact bodyPost_ret (results_t1 Tryz.results78 _ rfl q9) rfl ⟨by rw [h1.out]; rfl, B5.out.trans (b9.mono (Nat.le_refl _))⟩
  | some ps =>
    have hu1 : u ≠ [] := fun h => by rw [h] at hus; cases hus
    have hue1 : (bA u).toList.isEmpty = false := ne_emp fun h => hu1 (hue.2 h)
    obtain rfl : bt = true := hbt.2 (by rw [hus]; simp)
    have HRD := hid (HR.out hA (by omega) ps hus)
    rw [hus] at h1
    clear hz0 hu0 hlen hA HR HQ hbt hue hB hC hBt hus hu1
    have h1 : Hid (numF p = if -1000000000000000000 < valF p * ps ∧ valF p * ps < 1000000000000000000 then .ok ⟨2, p, valF p * ps, true⟩ else .error 2) := h1
    generalize valF p * ps = v at *
    by_cases hs : smallI v = true
    · have hs' : -1000000000000000000 < v ∧ v < 1000000000000000000 := by simpa [smallI] using hs
      rw [if_pos hs'] at h1
      have ht : timV v = v := by unfold timV; rw [if_pos (small_top hs)]
      rw [hs, ht] at HRD
      clear hs hs' ht
      go_enter Tryz.func78, Tryz.ntmps78
      go_wp2_with (first
        | (refine Sh.wp_sv tkS (x := ⟨2, p, v, true⟩) rfl (.tmp 2) (.tmp 54) rfl rfl (by rfl) q5 ?_; intro w9 q9 b9 o9 _)
        | (go_at_call 67; refine (HCl.out _).mono ?_; rintro e w5 ⟨rfl, g5⟩; have q5 := q4.keep g5; have B5 : Hid (Below w.heap.size w w5) := hid (B4.out.trans (g5.mono B4.out.size)); clear q4 g5)
        | (go_at_call 98; refine (HRD.out _ (HL.out.below B3.out)).mono ?_; rintro e w4 ⟨rfl, g4⟩; have q4 := q3.keep g4; have B4 : Hid (Below w.heap.size w w4) := hid (B3.out.trans (g4.mono B3.out.size)); clear q3 g4)
        | (go_at_call 97; refine (HN.out _ (HL.out.below (b1.trans (g2.mono b1.size)))).mono ?_; rintro e w3 ⟨rfl, g3⟩; have q3 := q2.keep g3; have B3 : Hid (Below w.heap.size w w3) := hid ((b1.trans (g2.mono b1.size)).trans (g3.mono (Nat.le_trans b1.size g2.size))); clear q1 q2 g2 g3 b1)
        | (go_at_call 96; refine (HU.out _).mono ?_; rintro e w2 ⟨rfl, g2⟩; have q2 := q1.keep g2)
        | (go_at_call 95; refine (HT.out _).mono ?_; rintro e w' ⟨rfl, rfl⟩)
        | (refine Sh.wp_al tkS rfl rfl ?_; intro w1 q1 b1 s1; clear s1))
      exact bodyPost_ret (results_t1 Tryz.results78 _ rfl q9) rfl ⟨by rw [h1.out]; rfl, B5.out.trans (b9.mono (Nat.le_refl _))⟩
    · have hs' : ¬ (-1000000000000000000 < v ∧ v < 1000000000000000000) := by simpa [smallI] using hs
      rw [if_neg hs'] at h1
      have hs : smallI v = false := by simpa using hs
      rw [hs] at HRD
      clear hs hs'
      generalize timV v = v2 at *
      go_enter Tryz.func78, Tryz.ntmps78
      go_wp2_with (first
        | (refine Sh.wp_sv tkS (x := ⟨0, [], 0, false⟩) rfl (.tmp 2) (.tmp 49) rfl rfl (by rfl) q4 ?_; intro w9 q9 b9 o9 _)
        | (go_at_call 67; refine (HCl.out _).mono ?_; rintro e w5 ⟨rfl, g5⟩; have q5 := q4.keep g5; have B5 : Hid (Below w.heap.size w w5) := hid (B4.out.trans (g5.mono B4.out.size)); clear q4 g5)
        | (go_at_call 98; refine (HRD.out _ (HL.out.below B3.out)).mono ?_; rintro e w4 ⟨rfl, g4⟩; have q4 := q3.keep g4; have B4 : Hid (Below w.heap.size w w4) := hid (B3.out.trans (g4.mono B3.out.size)); clear q3 g4)
        | (go_at_call 97; refine (HN.out _ (HL.out.below (b1.trans (g2.mono b1.size)))).mono ?_; rintro e w3 ⟨rfl, g3⟩; have q3 := q2.keep g3; have B3 : Hid (Below w.heap.size w w3) := hid ((b1.trans (g2.mono b1.size)).trans (g3.mono (Nat.le_trans b1.size g2.size))); clear q1 q2 g2 g3 b1)
        | (go_at_call 96; refine (HU.out _).mono ?_; rintro e w2 ⟨rfl, g2⟩; have q2 := q1.keep g2)
        | (go_at_call 95; refine (HT.out _).mono ?_; rintro e w' ⟨rfl, rfl⟩)
        | (refine Sh.wp_al tkS rfl rfl ?_; intro w1 q1 b1 s1; clear s1))
      exact bodyPost_ret (results_t1 Tryz.results78 _ rfl q9) rfl ⟨by rw [h1.out]; rfl, B4.out.trans (b9.mono (Nat.le_refl _))⟩
end Go.Proofs.YtkfnkieljcipnaaGreatDoor

/-! LF -/
namespace Go.Proofs.YtkfnkieljcipnaaGreatDoor
open Go Go.RowKit Go.Joins

/-- Where the cutting of a piece has come to. -/
def PI (l : List UInt8) (pos : Nat) : Prop := pos = 0 ∨ ((dec l).2 ≤ pos ∧ ((l.take pos).drop (dec l).2).all ldB = true ∧ ((dec l).2 < pos → signL (l.take (dec l).2) = false))

theorem takeWhile_stop (f : UInt8 → Bool) (a b : List UInt8) (ha : a.all f = true) (hb : b = [] ∨ ∃ c r, b = c :: r ∧ f c = false) : (a ++ b).takeWhile f = a := by
  induction a with
  | nil =>
    rcases hb with rfl | ⟨c, r, rfl, h⟩
    · rfl
    · rw [List.nil_append, List.takeWhile_cons_of_neg (by rw [h]; decide)]
  | cons d a ih =>
    rw [List.all_cons, Bool.and_eq_true] at ha
    rw [List.cons_append, List.takeWhile_cons_of_pos ha.1, ih ha.2]

theorem pi_zero (c : UInt8) (r : List UInt8) : PI (c :: r) (dec (c :: r)).2 := by
  refine .inr ⟨Nat.le_refl _, ?_, fun h => absurd h (Nat.lt_irrefl _)⟩
  rw [List.drop_of_length_le (by rw [List.length_take]; omega)]
  rfl
theorem pi_sign (l : List UInt8) (pos : Nat) (h : signL (l.take pos) = true) : pieceF l = l.take pos := by
  match l with
  | [] => cases pos <;> cases h
  | c :: r =>
    match pos with
    | 0 => cases h
    | k + 1 =>
      rw [List.take_succ_cons] at h ⊢
      match hk : r.take k with
      | [] =>
        rw [hk] at h
        have h : sgB c = true := h
        rw [pieceF_cons, if_pos h]
      | d :: e => rw [hk] at h; cases h
theorem pi_nosign (c : UInt8) (r : List UInt8) (pos : Nat) (h0 : 0 < pos) (h : PI (c :: r) pos) (hs : signL ((c :: r).take pos) = false) : sgB c = false := by
  rcases h with h | ⟨h1, h2, h3⟩
  · omega
  · cases hc : sgB c with
    | false => rfl
    | true =>
      rw [dec_ascii c r (sg_ascii hc).1] at h3
      by_cases hp : pos = 1
      · subst hp
        have : sgB c = false := hs
        rw [this] at hc; exact hc.symm
      · have : sgB c = false := h3 (show 1 < pos by omega)
        rw [this] at hc; exact hc.symm
theorem pi_whole (l : List UInt8) (pos : Nat) (h0 : 0 < pos) (hl : l ≠ []) (h : PI l pos) (hs : signL (l.take pos) = false) (hb : l.drop pos = [] ∨ ∃ c r, l.drop pos = c :: r ∧ ldB c = false) : pieceF l = l.take pos := by
  match l, hl with
  | c :: r, _ =>
    have hc := pi_nosign c r pos h0 h hs
    rcases h with h | ⟨h1, h2, h3⟩
    · omega
    · rw [pieceF_cons, if_neg (by rw [hc]; decide)]
      generalize dec (c :: r) = dd at *
      have e : (c :: r).drop dd.2 = ((c :: r).take pos).drop dd.2 ++ (c :: r).drop pos := by
        conv => lhs; rw [← List.take_append_drop pos (c :: r)]
        by_cases hp : pos ≤ (c :: r).length
        · rw [List.drop_append_of_le_length (by rw [List.length_take]; omega)]
        · rw [List.drop_of_length_le (i := pos) (by omega), List.append_nil, List.append_nil]
      rw [e, takeWhile_stop ldB _ _ h2 hb]
      have e2 : (c :: r).take dd.2 = ((c :: r).take pos).take dd.2 := by rw [List.take_take, Nat.min_eq_left h1]
      rw [e2, List.take_append_drop]
theorem pi_step (l : List UInt8) (pos : Nat) (h0 : 0 < pos) (h : PI l pos) (hs : signL (l.take pos) = false) (c : UInt8) (ht : l.take (pos + 1) = l.take pos ++ [c]) (hp : pos < l.length) (hc : ldB c = true) : PI l (pos + 1) := by
  rcases h with h | ⟨h1, h2, h3⟩
  · omega
  · refine .inr ⟨by omega, ?_, fun h4 => ?_⟩
    · rw [ht, List.drop_append_of_le_length (by rw [List.length_take]; omega), List.all_append, h2]
      simp [hc]
    · by_cases h5 : (dec l).2 < pos
      · exact h3 h5
      · have : (dec l).2 = pos := by omega
        rw [this]; exact hs
theorem extract_take (s : ByteArray) (k : Nat) : (s.extract 0 k).data.toList = s.data.toList.take k := by
  rw [ByteArray.data_extract, Array.toList_extract]
  simp [List.extract_eq_take_drop]
theorem extract_bA (s : ByteArray) (k : Nat) : s.extract 0 k = bA (s.data.toList.take k) := by
  rw [← extract_take, bA_data]

def PiecePost (s : ByteArray) (w : World) (e : Ending) (w' : World) : Prop := e = .returned (.string (bA (pieceF s.data.toList))) ∧ Below w.heap.size w w'

set_option maxRecDepth 100000 in
theorem piece_any (s : ByteArray) (w : World) (_ : s.size ≤ 140737488355328) : Calls Tryz.prog 57 #[.string s] w (PiecePost s w) := by
  go_enter Tryz.func57, Tryz.ntmps57
  go_wp2
  go_loopw [] (fun wr => ∃ pos : Nat, wr = w.iter s pos ∧ pos ≤ s.size ∧ PI s.data.toList pos) (fun wr => s.size - wr.iterPos w.heap.size)
  case atStart => exact ⟨0, rfl, Nat.zero_le _, .inl rfl⟩
  case round =>
    obtain ⟨pos, rfl, hp, hw⟩ := hrel
    by_cases hlt : pos < s.size
    · obtain ⟨c, r, hd, ht⟩ := drop_cons (l := s.data.toList) (k := pos) (by simpa using hlt)
      have hnx : ∀ ty, (Instr.next (.pointer (some ⟨w.heap.size, 0, none⟩)) true ty).run Tryz.prog (w.iter s pos) = _ := fun ty => run_next_any w s pos ty hlt
      rw [dec_of, hd] at hnx
      by_cases h0 : pos = 0
      · subst h0
        have hok : Hid (PI s.data.toList (dec (c :: r)).2 ∧ 0 < (dec (c :: r)).2 ∧ (dec (c :: r)).2 ≤ s.size) := hid (by
          have hd' : s.data.toList = c :: r := by simpa using hd
          have h1 := pi_zero c r
          have h2 := dec_le c r
          have h3 := dec_pos (c :: r)
          rw [← hd'] at h1 ⊢
          refine ⟨h1, by rw [← hd'] at h3; omega, ?_⟩
          have : s.data.toList.length = r.length + 1 := by rw [hd']; rfl
          rw [hd']
          show _ ≤ s.data.toList.length
          omega)
        clear hd ht hw
        generalize (dec (c :: r)).1 = x at *
        generalize (dec (c :: r)).2 = n at *
        have hn := hok.out.2
        go_wp2
        go_roundw
        case rel => exact ⟨n, by simp, hn.2, hok.out.1⟩
        case measure => simp; omega
      · have h1 := let_rune c r
        have h2 := dig_rune c r
        have h3 := ld_width (c := c) r
        have hex := extract_bA s pos
        have hne : s.data.toList ≠ [] := by
          intro h; rw [h] at hd; simp at hd
        have HX := hid (fun w => by have := sign_any (bA (s.data.toList.take pos)) w; rwa [bA_list] at this)
        have hA := hid (fun h => pi_sign s.data.toList pos h)
        have hB := hid (fun hs hc => pi_whole s.data.toList pos (by omega) hne hw hs (.inr ⟨c, r, hd, hc⟩))
        have hC := hid (fun hs hc => pi_step s.data.toList pos (by omega) hw hs c ht (by simpa using hlt) hc)
        clear hd ht hw hne
        generalize (dec (c :: r)).1 = x at *
        generalize (dec (c :: r)).2 = n at *
        have HL := hid (fun w => by have := letter_any x w; rwa [h1] at this)
        have HD := hid (fun w => by have := digit_any x w; rwa [h2] at this)
        have HN := hid (show ldB c = true → n = 1 from h3)
        clear h1 h2 h3
        have hp0 : 0 < pos := by omega
        generalize signL (s.data.toList.take pos) = sb at *
        have hld : ldB c = (letB c || digB c) := rfl
        generalize ldB c = lb at *
        generalize letB c = la at *
        generalize digB c = da at *
        subst hld
        cases sb
        · cases la
          · cases da
            · have hok := hid (hB.out rfl rfl)
              clear hA hB hC HN
              go_wp2_with (first
            | (go_at_call 76; refine (HX.out _).mono ?_; rintro e w' ⟨rfl, rfl⟩)
            | (go_at_call 79; refine (HL.out _).mono ?_; rintro e w' ⟨rfl, rfl⟩)
            | (go_at_call 80; refine (HD.out _).mono ?_; rintro e w' ⟨rfl, rfl⟩))
              go_ret
              exact ⟨by rw [hok.out]; rfl, below_iter _ _ _⟩
            · have hok := hid (hC.out rfl rfl)
              obtain rfl : n = 1 := HN.out rfl
              clear hA hB hC HN
              go_wp2_with (first
            | (go_at_call 76; refine (HX.out _).mono ?_; rintro e w' ⟨rfl, rfl⟩)
            | (go_at_call 79; refine (HL.out _).mono ?_; rintro e w' ⟨rfl, rfl⟩)
            | (go_at_call 80; refine (HD.out _).mono ?_; rintro e w' ⟨rfl, rfl⟩))
              go_roundw
              case rel => exact ⟨pos + 1, rfl, by omega, hok.out⟩
              case measure => simp; omega
          · have hok := hid (hC.out rfl rfl)
            obtain rfl : n = 1 := HN.out rfl
            clear hA hB hC HN
            go_wp2_with (first
            | (go_at_call 76; refine (HX.out _).mono ?_; rintro e w' ⟨rfl, rfl⟩)
            | (go_at_call 79; refine (HL.out _).mono ?_; rintro e w' ⟨rfl, rfl⟩))
            go_roundw
            case rel => exact ⟨pos + 1, rfl, by omega, hok.out⟩
            case measure => simp; omega
        · have hok := hid (hA.out rfl)
          clear hA hB hC HN
          go_wp2_with (first
            | (go_at_call 76; refine (HX.out _).mono ?_; rintro e w' ⟨rfl, rfl⟩))
          go_ret
          exact ⟨by rw [hok.out]; rfl, below_iter _ _ _⟩
    · have hnx : ∀ ty, (Instr.next (.pointer (some ⟨w.heap.size, 0, none⟩)) true ty).run Tryz.prog (w.iter s pos) = _ := fun ty => run_next_end w s pos ty hlt
      have hok : Hid (pieceF s.data.toList = s.data.toList) := hid (by
        obtain rfl : pos = s.size := by omega
        have et : s.data.toList.take s.size = s.data.toList := List.take_of_length_le (Nat.le_refl _)
        have ed : s.data.toList.drop s.size = [] := List.drop_of_length_le (Nat.le_refl _)
        match hl : s.data.toList with
        | [] => rfl
        | c :: r =>
          have h0 : 0 < s.size := by
            show 0 < s.data.toList.length
            rw [hl]; simp
          cases hs1 : signL s.data.toList with
          | true => rw [← hl]; have := pi_sign s.data.toList s.size (by rw [et]; exact hs1); rwa [et] at this
          | false => rw [← hl]; have := pi_whole s.data.toList s.size h0 (by rw [hl]; simp) hw (by rw [et]; exact hs1) (.inl ed); rwa [et] at this)
      clear hw
      go_wp2
      go_ret
      exact ⟨by rw [hok.out, bA_data]; rfl, below_iter _ _ _⟩

set_option maxRecDepth 100000 in
theorem token_any (p : List UInt8) (w : World) (hL : LaidW w) (hne : p ≠ []) (hsz : p.length ≤ 140737488355328) :
    Calls Tryz.prog 56 #[.string (bA p)] w fun e w' => e = .returned (tokR (tokF p)) ∧ Below w.heap.size w w' := by
  match p, hne with
  | c :: r, _ =>
  have h1 := hid (show tokF (c :: r) = (if r = [] ∧ sgB c then .ok ⟨3, c :: r, 0, false⟩ else if wordB (c :: r) then .ok ⟨1, c :: r, 0, false⟩ else if letB c then .error 6 else numF (c :: r)) from rfl)
  have hrl : r.length + 1 ≤ 140737488355328 := by simpa using hsz
  have hm : (bA (c :: r)).size = r.length + 1 := bA_size _
  have hex : (bA (c :: r)).extract 0 1 = bA [c] := by rw [extract_bA, bA_list]; rfl
  have HX := hid (fun w => by have := sign_any (bA (c :: r)) w; rwa [bA_list] at this)
  have HW := hid (fun w => word_any (bA (c :: r)) w (by omega))
  have HV := hid (fun w => word_any (bA [c]) w (by rw [bA_size]; simp))
  have hv : wordB (bA [c]).data.toList = letB c := by rw [bA_list]; simp [wordB]
  have HN := hid (fun w hL => lnum_any (c :: r) w hL hsz)
  have HC := hid (fun w => clone_any (bA (c :: r)) w (by rw [hm]; omega))
  have hsg : signL (c :: r) = decide (r = [] ∧ sgB c = true) := by
    cases r with
    | nil => show sgB c = _; simp
    | cons d r => show false = _; simp
  unfold WordPost at HW HV
  rw [hv] at HV
  rw [bA_list] at HW
  rw [hsg] at HX
  have HL := hid hL
  have hbs : encT = fun t => [.int .i64 t.kind, .string (bA t.s), .int .i64 t.n, .bool t.time] := rfl
  clear hbs
  obtain ⟨s, hs⟩ : ∃ s, bA (c :: r) = s := ⟨_, rfl⟩
  obtain ⟨s1, hs1⟩ : ∃ s, bA [c] = s := ⟨_, rfl⟩
  rw [hs] at HX HW HN HC hm hex ⊢
  rw [hs1] at hex HV
  have hbs : strB (c :: r) = s := hs
  by_cases hA : r = [] ∧ sgB c = true
  · rw [if_pos hA] at h1
    rw [decide_eq_true hA] at HX
    have hv2 : tkS.val ⟨3, c :: r, 0, false⟩ = .agg #[.int .i64 3, .string s, .int .i64 0, .bool false] := by rw [← hbs]; rfl
    clear hA hs hs1 HW HV HN hv hsg hex hm
    go_enter Tryz.func56, Tryz.ntmps56
    go_wp2_with (first
      | (refine Sh.wp_sv tkS (x := ⟨3, c :: r, 0, false⟩) rfl (.tmp 2) (.tmp 9) rfl rfl (by rw [hv2]; rfl) q2 ?_; intro w9 q9 b9 o9 _)
      | (go_at_call 67; refine (HC.out _).mono ?_; rintro e w2 ⟨rfl, g2⟩; have q2 := q1.keep g2; have b2 := b1.trans (g2.mono b1.size); clear q1 g2 b1)
      | (go_at_call 76; refine (HX.out _).mono ?_; rintro e w' ⟨rfl, rfl⟩)
      | (refine Sh.wp_al tkS rfl rfl ?_; intro w1 q1 b1 s1; clear s1))
    exact bodyPost_ret (results_t1 Tryz.results56 _ rfl q9) rfl ⟨by rw [h1.out]; rfl, b2.trans (b9.mono (Nat.le_refl _))⟩
  rw [if_neg hA] at h1
  rw [decide_eq_false hA] at HX
  cases hw : wordB (c :: r) with
  | true =>
    rw [if_pos hw] at h1
    rw [hw] at HW
    have hv2 : tkS.val ⟨1, c :: r, 0, false⟩ = .agg #[.int .i64 1, .string s, .int .i64 0, .bool false] := by rw [← hbs]; rfl
    clear hA hs hs1 HV HN hv hsg hex hm hw
    go_enter Tryz.func56, Tryz.ntmps56
    go_wp2_with (first
      | (refine Sh.wp_sv tkS (x := ⟨1, c :: r, 0, false⟩) rfl (.tmp 2) (.tmp 15) rfl rfl (by rw [hv2]; rfl) q3 ?_; intro w9 q9 b9 o9 _)
      | (go_at_call 67; refine (HC.out _).mono ?_; rintro e w3 ⟨rfl, g3⟩; have q3 := q2.keep g3; have b3 := b2.trans (g3.mono b2.size); clear q2 g3 b2)
      | (go_at_call 77; refine (HW.out _).mono ?_; rintro e w2 ⟨rfl, g2⟩; have q2 := q1.keep g2; have b2 := b1.trans (g2.mono b1.size); clear q1 g2 b1)
      | (go_at_call 76; refine (HX.out _).mono ?_; rintro e w' ⟨rfl, rfl⟩)
      | (refine Sh.wp_al tkS rfl rfl ?_; intro w1 q1 b1 s1; clear s1))
    exact bodyPost_ret (results_t1 Tryz.results56 _ rfl q9) rfl ⟨by rw [h1.out]; rfl, b3.trans (b9.mono (Nat.le_refl _))⟩
  | false =>
    rw [if_neg (by rw [hw]; decide)] at h1
    rw [hw] at HW
    cases hl : letB c with
    | true =>
      rw [if_pos hl] at h1
      rw [hl] at HV
      clear hA hs hs1 HC HN hv hsg hw hl
      go_enter Tryz.func56, Tryz.ntmps56
      go_wp2_with (first
        | (refine Sh.wp_sv tkS (x := ⟨0, [], 0, false⟩) rfl (.tmp 2) (.tmp 20) rfl rfl (by rfl) q3 ?_; intro w9 q9 b9 o9 _)
        | (go_at_call 77; (with_reducible refine (HV.out _).mono ?_); rintro e w3 ⟨rfl, g3⟩; have q3 := q2.keep g3; have b3 := b2.trans (g3.mono b2.size); clear q2 g3 b2)
        | (go_at_call 77; refine (HW.out _).mono ?_; rintro e w2 ⟨rfl, g2⟩; have q2 := q1.keep g2; have b2 := b1.trans (g2.mono b1.size); clear q1 g2 b1)
        | (go_at_call 76; refine (HX.out _).mono ?_; rintro e w' ⟨rfl, rfl⟩)
        | (refine Sh.wp_al tkS rfl rfl ?_; intro w1 q1 b1 s1; clear s1))
      exact bodyPost_ret (results_t1 Tryz.results56 _ rfl q9) rfl ⟨by rw [h1.out]; rfl, b3.trans (b9.mono (Nat.le_refl _))⟩
    | false =>
      rw [if_neg (by rw [hl]; decide)] at h1
      rw [hl] at HV
      clear hA hs hs1 HC hv hsg hw hl
      obtain ⟨t, e, ht⟩ : ∃ t e, tokR (numF (c :: r)) = .tuple #[tkV t, .int .i64 e] := by
        cases numF (c :: r) with
        | ok t => exact ⟨t, 0, rfl⟩
        | error e => exact ⟨⟨0, [], 0, false⟩, e, rfl⟩
      rw [ht] at HN
      have h1 := hid (show tokR (tokF (c :: r)) = .tuple #[tkV t, .int .i64 e] by rw [h1.out, ht])
      clear ht
      go_enter Tryz.func56, Tryz.ntmps56
      go_wp2_with (first
        | (refine Sh.wp_sv tkS (x := t) rfl (.tmp 2) (.tmp 23) rfl rfl (by rfl) q4 ?_; intro w9 q9 b9 o9 _)
        | (go_at_call 78; refine (HN.out _ (HL.out.below b3)).mono ?_; rintro e w4 ⟨rfl, g4⟩; have q4 := q3.keep g4; have b4 := b3.trans (g4.mono b3.size); clear q3 g4 b3)
        | (go_at_call 77; (with_reducible refine (HV.out _).mono ?_); rintro e w3 ⟨rfl, g3⟩; have q3 := q2.keep g3; have b3 := b2.trans (g3.mono b2.size); clear q2 g3 b2)
        | (go_at_call 77; refine (HW.out _).mono ?_; rintro e w2 ⟨rfl, g2⟩; have q2 := q1.keep g2; have b2 := b1.trans (g2.mono b1.size); clear q1 g2 b1)
        | (go_at_call 76; refine (HX.out _).mono ?_; rintro e w' ⟨rfl, rfl⟩)
        | (refine Sh.wp_al tkS rfl rfl ?_; intro w1 q1 b1 s1; clear s1))
      exact bodyPost_ret (results_t1 Tryz.results56 _ rfl q9) rfl ⟨by rw [h1.out]; rfl, b4.trans (b9.mono (Nat.le_refl _))⟩
end Go.Proofs.YtkfnkieljcipnaaGreatDoor

/-! LG -/
namespace Go.Proofs.YtkfnkieljcipnaaGreatDoor
open Go Go.RowKit Go.Joins

theorem LaidW.firstc {w : World} (h : LaidW w) : w.cell? ⟨0, 0, none⟩ = some (.int .i64 1) ∧ w.cell? ⟨0, 1, none⟩ = some (.int .i64 1) ∧ 0 < w.heap.size := by
  have hu := h.first
  unfold World.var? at hu
  rw [gFirst] at hu
  simp only [Option.bind_some] at hu
  split at hu
  · rename_i cs t fr hh
    cases hu
    refine ⟨?_, ?_, ?_⟩
    · rw [cell_of_row w 0 _ _ t fr hh]; rfl
    · rw [cell_of_row w 0 _ _ t fr hh]; rfl
    · exact (Array.getElem?_eq_some_iff.1 hh).1
  · cases hu

theorem plAt_step (l : List UInt8) (pos : Nat) (c : UInt8) (r : List UInt8) (hd : l.drop pos = c :: r) (p : Pl) (b : Nat) :
    plAt (l.drop pos) p b = if b < (dec (c :: r)).2 then p else plAt (l.drop (pos + (dec (c :: r)).2)) (behindP p (dec (c :: r)).1) (b - (dec (c :: r)).2) := by
  have htd := tail_drop c r (dec (c :: r)).2 (dec_pos _)
  rw [hd, plAt, htd, ← List.drop_drop, hd]
theorem two_stored {w8 w9 : World} {g6 g7 : Nat} {hr nx : Pl} (v6 : plS.Var w8 g6 hr) (v7 : plS.Var w8 g7 nx) (hg : g6 ≠ g7) (bp : Pl)
    (hW : w9 = (((w8.setCell ⟨g6, 0, none⟩ (.int .i64 nx.line)).setCell ⟨g6, 1, none⟩ (.int .i64 nx.col)).setCell ⟨g7, 0, none⟩ (.int .i64 bp.line)).setCell ⟨g7, 1, none⟩ (.int .i64 bp.col)) :
    plS.Var w9 g6 nx ∧ plS.Var w9 g7 bp ∧ (∀ j, j ≠ g6 → j ≠ g7 → w9.heap[j]? = w8.heap[j]?) ∧ ∀ B, B ≤ g6 → B ≤ g7 → Below B w8 w9 := by
  have hW : w9 = (w8.setCells g6 0 (encP nx)).setCells g7 0 (encP bp) := hW
  subst hW
  have z6 := Sh.var_stored (σ := plS) v6.2 nx
  have y6 := setCells_oth g6 (encP nx) 0 w8
  have y7 := v7.other y6.2 (Ne.symm hg)
  have z7 := Sh.var_stored (σ := plS) y7.2 bp
  have x7 := setCells_oth g7 (encP bp) 0 (w8.setCells g6 0 (encP nx))
  exact ⟨z6.other x7.2 hg, z7, fun j h1 h2 => (x7.2 j h2).trans (y6.2 j h1), fun B h1 h2 => (y6.1.mono h1).trans (x7.1.mono h2)⟩
/-- what Where tells -/
def whereR (l : List UInt8) (at_ : Int) : Value := if at_ < 0 ∨ (l.length : Int) < at_ then .tuple #[plV ⟨0, 0⟩, .int .i64 1] else .tuple #[plV (plAt l firstP at_.toNat), .int .i64 0]
def WherePost (s : ByteArray) (at_ : Int) (w : World) (e : Ending) (w' : World) : Prop := e = .returned (whereR s.data.toList at_) ∧ Below w.heap.size w w'

set_option maxRecDepth 100000 in
theorem where_bad (s : ByteArray) (at_ : Int) (w : World) (h : at_ < 0 ∨ (s.size : Int) < at_) : Calls Tryz.prog 39 #[.string s, .int .i64 at_] w (WherePost s at_ w) := by
  have h1 := hid (show whereR s.data.toList at_ = _ from if_pos h)
  rcases h with h | h
  · go_enter Tryz.func39, Tryz.ntmps39
    go_wp2_with (first
      | (refine Sh.wp_sv plS (x := ⟨0, 0⟩) rfl (.tmp 4) (.tmp 18) rfl rfl (by rfl) q1 ?_; intro w9 q9 b9 o9 _)
      | (refine Sh.wp_al plS rfl rfl ?_; intro w1 q1 b1 s1; clear s1))
    exact bodyPost_ret (results_p1 Tryz.results39 _ rfl q9) rfl ⟨by rw [h1.out]; rfl, b1.trans (b9.mono (Nat.le_refl _))⟩
  · have h0 : ¬ at_ < 0 := by omega
    go_enter Tryz.func39, Tryz.ntmps39
    go_wp2_with (first
      | (refine Sh.wp_sv plS (x := ⟨0, 0⟩) rfl (.tmp 4) (.tmp 18) rfl rfl (by rfl) q1 ?_; intro w9 q9 b9 o9 _)
      | (refine Sh.wp_al plS rfl rfl ?_; intro w1 q1 b1 s1; clear s1))
    exact bodyPost_ret (results_p1 Tryz.results39 _ rfl q9) rfl ⟨by rw [h1.out]; rfl, b1.trans (b9.mono (Nat.le_refl _))⟩

set_option maxHeartbeats 2000000 in
set_option maxRecDepth 100000 in
theorem where_ok (s : ByteArray) (a : Nat) (w : World) (hL : LaidW w) (h : a ≤ s.size) (hs : s.size ≤ 274877906944) : Calls Tryz.prog 39 #[.string s, .int .i64 a] w (WherePost s a w) := by
  have h1 := hid (show whereR s.data.toList a = .tuple #[plV (plAt s.data.toList firstP a), .int .i64 0] from if_neg (by show ¬ ((a : Int) < 0 ∨ ((s.size : Nat) : Int) < a); omega))
  have h0 : ¬ (s.size : Int) < a := by omega
  obtain ⟨f0, f1, hfs⟩ := hL.firstc
  go_enter Tryz.func39, Tryz.ntmps39
  go_wp2_with (first
    | (refine Sh.wp_al plS rfl rfl ?_; intro w1 q1 b1 s1; have f0 : w1.cell? ⟨0, 0, none⟩ = some (.int .i64 1) := (b1.cell (p := ⟨0, 0, none⟩) hfs).trans f0; have f1 : w1.cell? ⟨0, 1, none⟩ = some (.int .i64 1) := (b1.cell (p := ⟨0, 1, none⟩) hfs).trans f1; have hf1 : 0 < w1.heap.size := Nat.lt_of_lt_of_le hfs b1.size; have Q1 := hid q1; have B1 := hid b1; have S1 := hid s1.out; clear q1 b1 s1))
  have hne : ∀ k, ¬ (0 = w1.heap.size + k) := fun k => by omega
  go_cut [6, 7] (fun v6 v7 wx => ∃ g6 g7, v6 = .pointer (some ⟨g6, 0, none⟩) ∧ v7 = .pointer (some ⟨g7, 0, none⟩) ∧ g6 ≠ g7 ∧ w1.heap.size ≤ g6 ∧ w1.heap.size ≤ g7 ∧ Hid (plS.Var wx g6 firstP) ∧ Hid (plS.Var wx g7 firstP) ∧ Hid (Below w1.heap.size w1 wx))
  case first =>
    go_region_held3 (fun w' => w'.cell? ⟨0, 0, none⟩ = some (.int .i64 1) ∧ w'.cell? ⟨0, 1, none⟩ = some (.int .i64 1)) (first | with_reducible exact ⟨f0, f1⟩ | go_keep) (first | fail)
    all_goals
      go_wp2_with fail
      go_meet
      first
        | exact ⟨_, _, rfl, rfl, by omega, by omega, by omega, hid ((Sh.var_new w1 firstP _).keep (((Below.refl _ _).alloc (Nat.le_refl _) _).drew)), hid (by have := Sh.var_new (σ := plS) (w1.alloc (.cells #[.int .i64 1, .int .i64 1] 26)) firstP 26; simp at this; exact this.drew), hid ((((Below.refl _ _).alloc (Nat.le_refl _) _).alloc (by simp) _).drew)⟩
        | exact ⟨_, _, rfl, rfl, by omega, by omega, by omega, hid (by have := Sh.var_new (σ := plS) (w1.alloc (.cells #[.int .i64 1, .int .i64 1] 26)) firstP 26; simp at this; exact this.drew), hid ((Sh.var_new w1 firstP _).keep (((Below.refl _ _).alloc (Nat.le_refl _) _).drew)), hid ((((Below.refl _ _).alloc (Nat.le_refl _) _).alloc (by simp) _).drew)⟩
  case rest =>
    obtain ⟨g6, g7, rfl, rfl, hg, hg6, hg7, V6, V7, BX⟩ := hcut
    have hk6 : g6 < wc.heap.size := V6.out.lt
    have hk7 : g7 < wc.heap.size := V7.out.lt
    go_wp2_with fail
    generalize hk : wc.heap.size = k at *
    have I0 : Hid ((wc.iter s 0).heap[k]? = some (.stringIter s 0)) := hid (by rw [← hk]; exact World.iter_heap wc s 0)
    have bI : Below wc.heap.size wc (wc.iter s 0) := below_iter wc s 0
    have W6 := hid (V6.out.keep bI)
    have W7 := hid (V7.out.keep bI)
    have BY := hid (BX.out.trans (bI.mono BX.out.size))
    clear bI V6 V7 BX hne f0 f1 hf1 hk
    generalize wc.iter s 0 = wi at *
    go_loopw [] (fun wr => ∃ (pos : Nat) (hr nx : Pl), wr.heap[k]? = some (.stringIter s pos) ∧ pos ≤ s.size ∧ plS.Var wr g6 hr ∧ plS.Var wr g7 nx ∧ Below w1.heap.size w1 wr ∧ (hr.line ≤ pos + 1 ∧ hr.col ≤ pos + 1 ∧ nx.line ≤ pos + 1 ∧ nx.col ≤ pos + 1) ∧ (a < pos → hr = plAt s.data.toList firstP a) ∧ (pos ≤ a → plAt (s.data.toList.drop pos) nx (a - pos) = plAt s.data.toList firstP a)) (fun wr => s.size - wr.iterPos k)
    case atStart => exact ⟨0, firstP, firstP, I0.out, Nat.zero_le _, W6.out, W7.out, BY.out, ⟨by decide, by decide, by decide, by decide⟩, fun h => by omega, fun _ => rfl⟩
    case round =>
      obtain ⟨pos, hr, nx, hit, hp, hv6, hv7, hbel, ⟨hb1, hb2, hb3, hb4⟩, hi1, hi2⟩ := hrel
      clear I0 W6 W7 BY
      have V1 := hid (Q1.out.keep hbel)
      by_cases hlt : pos < s.size
      · obtain ⟨c, r, hd, ht⟩ := drop_cons (l := s.data.toList) (k := pos) (by simpa using hlt)
        have hnx : ∀ ty, (Instr.next (.pointer (some ⟨k, 0, none⟩)) true ty).run Tryz.prog wr = _ := fun ty => Lib.run_next_any_at wr k s pos ty hit hlt
        rw [dec_of, hd] at hnx
        have hpl := plAt_step s.data.toList pos c r hd nx
        have h3 := dec_pos (c :: r)
        have h4 := dec_le c r
        have hlen : s.data.toList.length = pos + (r.length + 1) := by
          have := congrArg List.length hd
          rw [List.length_drop] at this
          simp only [List.length_cons] at this
          have h5 : pos < s.data.toList.length := by simpa using hlt
          omega
        have hlen' : s.size = pos + (r.length + 1) := hlen
        clear hd ht hlen
        generalize (dec (c :: r)).1 = x at *
        generalize (dec (c :: r)).2 = n at *
        have HIT := hid hit
        have it2 := Lib.iterAt_heap wr k s pos (pos + n) hit
        have ob : Oth k wr (wr.iterAt k s (pos + n)) := fun j hj => Lib.iterAt_other wr k j s (pos + n) hj
        have bb := Lib.below_iterAt (Below.refl w1.heap.size wr) (k := k) (by omega) s (pos + n)
        have W6 := hid (hv6.other ob (by omega))
        have W7 := hid (hv7.other ob (by omega))
        have W1 := hid (V1.out.other ob (by have := Q1.out.lt; omega))
        have BY := hid (hbel.trans bb)
        have IT := hid it2
        clear it2 ob bb hv6 hv7 V1 hbel hit
        generalize wr.iterAt k s (pos + n) = wr2 at *
        by_cases hgt : a < pos
        · have he := hid (hi1 hgt)
          clear hi1 hi2 hpl
          have w6 := W6.out
          have q1 := W1.out
          go_wp2_with (first
            | (refine Sh.wp_sv plS (x := hr) rfl (.tmp 4) (.tmp 30) rfl rfl (by rfl) q1 ?_; intro w9 q9 b9 o9 _)
            | (refine Sh.wp_ld plS rfl (.tmp 6) rfl rfl w6.1 ?_))
          exact bodyPost_ret (results_p1 Tryz.results39 _ rfl q9) rfl ⟨by rw [h1.out, ← he.out]; rfl, (B1.out.trans (BY.out.mono B1.out.size)).trans (b9.mono (Nat.le_refl _))⟩
        · have hgt' : ¬ (a : Int) < pos := by omega
          have HI := hid (show (a < pos + n → nx = plAt s.data.toList firstP a) ∧ (pos + n ≤ a → plAt (s.data.toList.drop (pos + n)) (behindP nx x) (a - (pos + n)) = plAt s.data.toList firstP a) from by
            have h5 := hi2 (by omega)
            rw [hpl] at h5
            refine ⟨fun h => ?_, fun h => ?_⟩
            · rw [if_pos (by omega)] at h5; exact h5
            · rw [if_neg (by omega)] at h5; rw [← h5, show a - (pos + n) = a - pos - n by omega])
          clear hi1 hi2 hpl
          have HB := hid (fun w => behind_any nx x w (by omega) (by omega))
          have hbb : (behindP nx x).line ≤ pos + n + 1 ∧ (behindP nx x).col ≤ pos + n + 1 := by
            unfold behindP
            split <;> simp <;> omega
          generalize behindP nx x = bp at *
          have HB := hid (show ∀ w, Calls Tryz.prog 58 #[.agg #[.int .i64 nx.line, .int .i64 nx.col], .int .i32 x] w fun e w' => e = .returned (.agg #[.int .i64 bp.line, .int .i64 bp.col]) ∧ Below w.heap.size w w' from HB.out)
          have c0 : wr2.cell? ⟨g7, 0, none⟩ = some (.int .i64 nx.line) := W7.out.cell (j := 0) rfl
          have c1 : wr2.cell? ⟨g7, 1, none⟩ = some (.int .i64 nx.col) := W7.out.cell (j := 1) rfl
          have d0 : wr2.cell? ⟨g6, 0, none⟩ = some (.int .i64 hr.line) := W6.out.cell (j := 0) rfl
          have d1 : wr2.cell? ⟨g6, 1, none⟩ = some (.int .i64 hr.col) := W6.out.cell (j := 1) rfl
          have e0 : wr2.frozen? ⟨g6, 0, none⟩ = false := W6.out.free (j := 0) (by decide)
          have e1 : wr2.frozen? ⟨g6, 1, none⟩ = false := W6.out.free (j := 1) (by decide)
          go_wp2_with fail
          go_region_with
            (first
              | (go_at_call 58; (with_reducible refine (HB.out wr2.drew).mono ?_); rintro e w8 ⟨rfl, b8⟩; have v6 := (W6.out.drew).keep b8; have v7 := (W7.out.drew).keep b8; have c0 : w8.cell? ⟨g7, 0, none⟩ = some (.int .i64 nx.line) := v7.cell (j := 0) rfl; have c1 : w8.cell? ⟨g7, 1, none⟩ = some (.int .i64 nx.col) := v7.cell (j := 1) rfl; have d0 : w8.cell? ⟨g6, 0, none⟩ = some (.int .i64 hr.line) := v6.cell (j := 0) rfl; have d1 : w8.cell? ⟨g6, 1, none⟩ = some (.int .i64 hr.col) := v6.cell (j := 1) rfl; have e0 : w8.frozen? ⟨g6, 0, none⟩ = false := v6.free (j := 0) (by decide); have e1 : w8.frozen? ⟨g6, 1, none⟩ = false := v6.free (j := 1) (by decide); have k0 : w8.frozen? ⟨g7, 0, none⟩ = false := v7.free (j := 0) (by decide); have k1 : w8.frozen? ⟨g7, 1, none⟩ = false := v7.free (j := 1) (by decide); dsimp only)
              | (go_at_call 58; trace_state; fail))
          all_goals
            obtain ⟨w9, hW⟩ : ∃ w9, w9 = (((w8.setCell ⟨g6, 0, none⟩ (.int .i64 nx.line)).setCell ⟨g6, 1, none⟩ (.int .i64 nx.col)).setCell ⟨g7, 0, none⟩ (.int .i64 bp.line)).setCell ⟨g7, 1, none⟩ (.int .i64 bp.col) := ⟨_, rfl⟩
            obtain ⟨z6, z7, z8, z9⟩ := two_stored v6 v7 hg bp hW
            have Z6 := hid z6
            have Z7 := hid z7
            have ZI : Hid (w9.heap[k]? = some (.stringIter s (pos + n))) := hid ((z8 k (by omega) (by omega)).trans ((b8.block k ((Array.getElem?_eq_some_iff.1 IT.out).1)).trans IT.out))
            have ZB : Hid (Below w1.heap.size w1 w9) := hid ((BY.out.drew.trans (b8.mono BY.out.size)).trans (z9 _ hg6 hg7))
            rw [← hW]
            clear c0 c1 d0 d1 e0 e1 k0 k1 v6 v7 z6 z7 z8 z9 b8 hW
            go_wp2_with fail
            go_roundw
            case rel => exact ⟨pos + n, nx, bp, ZI.out, by omega, Z6.out, Z7.out, ZB.out, ⟨by omega, by omega, by omega, by omega⟩, HI.out.1, HI.out.2⟩
            case measure =>
              have e1 : w9.iterPos k = pos + n := by unfold World.iterPos; rw [ZI.out]
              have e2 : wr.iterPos k = pos := by unfold World.iterPos; rw [HIT.out]
              rw [e1, e2]; omega
      · have hnx : ∀ ty, (Instr.next (.pointer (some ⟨k, 0, none⟩)) true ty).run Tryz.prog wr = _ := fun ty => Lib.run_next_end_at wr k s pos ty hit hlt
        obtain rfl : pos = s.size := by omega
        have w6 := hv6
        have w7 := hv7
        have q1 := V1.out
        by_cases hlt2 : a < s.size
        · have hlt2' : (a : Int) < s.size := by omega
          have he := hid (hi1 hlt2)
          clear hi1 hi2 hit hlt hlt2
          go_wp2_with (first
            | (refine Sh.wp_sv plS (x := hr) rfl (.tmp 4) (.tmp 39) rfl rfl (by rfl) q1 ?_; intro w9 q9 b9 o9 _)
            | (refine Sh.wp_ld plS rfl (.tmp 6) rfl rfl w6.1 ?_))
          exact bodyPost_ret (results_p1 Tryz.results39 _ rfl q9) rfl ⟨by rw [h1.out, ← he.out]; rfl, (B1.out.trans (hbel.mono B1.out.size)).trans (b9.mono (Nat.le_refl _))⟩
        · have hlt2' : ¬ (a : Int) < s.size := by omega
          obtain rfl : a = s.size := by omega
          have he : Hid (nx = plAt s.data.toList firstP s.size) := hid (by
            have h5 := hi2 (Nat.le_refl _)
            rw [List.drop_of_length_le (show s.data.toList.length ≤ s.size from Nat.le_refl _), plAt] at h5
            exact h5)
          clear hi1 hi2 hit hlt hlt2
          go_wp2_with (first
            | (refine Sh.wp_sv plS (x := nx) rfl (.tmp 4) (.tmp 40) rfl rfl (by rfl) q1 ?_; intro w9 q9 b9 o9 _)
            | (refine Sh.wp_ld plS rfl (.tmp 7) rfl rfl w7.1 ?_))
          exact bodyPost_ret (results_p1 Tryz.results39 _ rfl q9) rfl ⟨by rw [h1.out, ← he.out]; rfl, (B1.out.trans (hbel.mono B1.out.size)).trans (b9.mono (Nat.le_refl _))⟩
theorem where_any (s : ByteArray) (at_ : Int) (w : World) (hL : LaidW w) (hs : s.size ≤ 274877906944) : Calls Tryz.prog 39 #[.string s, .int .i64 at_] w (WherePost s at_ w) := by
  by_cases h : at_ < 0 ∨ (s.size : Int) < at_
  · exact where_bad s at_ w h
  · obtain ⟨a, rfl⟩ := Int.eq_ofNat_of_zero_le (show 0 ≤ at_ by omega)
    exact where_ok s a w hL (by omega) hs
end Go.Proofs.YtkfnkieljcipnaaGreatDoor

/-! LH -/
namespace Go.Proofs.YtkfnkieljcipnaaGreatDoor
open Go

/-- So far cut: at byte pos, the last token's end, in a remark or not, here, what was found. -/
def CI (l : List UInt8) (pos en : Nat) (rem : Bool) (here : Pl) (acc : List (Tk × Pl)) : Prop :=
  en ≤ l.length ∧ (∀ j c, pos ≤ j → j < en → l[j]? = some c → c.toNat < 128 ∧ c.toNat ≠ 10) ∧ (pos < en → rem = false) ∧ here.line ≤ pos + 1 ∧ here.col ≤ pos + 1 ∧
  acc ++ (cutL (l.drop (max pos en)) rem ⟨here.line, here.col + (en - pos)⟩).1 = (cutL l false firstP).1 ∧ (cutL (l.drop (max pos en)) rem ⟨here.line, here.col + (en - pos)⟩).2 = (cutL l false firstP).2

theorem ci_start (l : List UInt8) : CI l 0 0 false firstP [] := ⟨Nat.zero_le _, fun j c _ h => by omega, fun h => absurd h (Nat.lt_irrefl _), by decide, by decide, rfl, rfl⟩

theorem behind_bound (p : Pl) (x pos n : Nat) (h1 : p.line ≤ pos + 1) (h2 : p.col ≤ pos + 1) (hn : 1 ≤ n) : (behindP p x).line ≤ pos + n + 1 ∧ (behindP p x).col ≤ pos + n + 1 := by
  unfold behindP
  split <;> simp <;> omega

section
variable {l : List UInt8} {pos en : Nat} {rem : Bool} {here : Pl} {acc : List (Tk × Pl)} {c : UInt8} {r : List UInt8}
theorem at_pos (hd : l.drop pos = c :: r) : l[pos]? = some c := by
  have := List.getElem?_drop (xs := l) (i := pos) (j := 0)
  rw [hd] at this
  simpa using this.symm
/-- A rune of the last token. -/
theorem ci_skip (h : CI l pos en rem here acc) (hd : l.drop pos = c :: r) (hlt : pos < en) : (dec (c :: r)).2 = 1 ∧ CI l (pos + 1) en rem (behindP here (dec (c :: r)).1) acc := by
  obtain ⟨h1, h2, h3, h4, h5, h6, h7⟩ := h
  have hc := h2 pos c (Nat.le_refl _) hlt (at_pos hd)
  rw [dec_ascii c r hc.1]
  have e : behindP here c.toNat = ⟨here.line, here.col + 1⟩ := by unfold behindP; rw [if_neg hc.2]
  refine ⟨rfl, h1, fun j d hj hj2 hjd => h2 j d (by omega) hj2 hjd, fun _ => h3 hlt, ?_⟩
  show (behindP here c.toNat).line ≤ _ ∧ (behindP here c.toNat).col ≤ _ ∧ _
  rw [e]
  have e1 : max (pos + 1) en = max pos en := by omega
  have e2 : here.col + 1 + (en - (pos + 1)) = here.col + (en - pos) := by omega
  rw [e1, e2]
  exact ⟨by show here.line ≤ _; omega, by show here.col + 1 ≤ _; omega, h6, h7⟩
theorem ci_here (h : CI l pos en rem here acc) (hge : en ≤ pos) (hd : l.drop pos = c :: r) : acc ++ (cutL (c :: r) rem here).1 = (cutL l false firstP).1 ∧ (cutL (c :: r) rem here).2 = (cutL l false firstP).2 := by
  obtain ⟨h1, h2, h3, h4, h5, h6, h7⟩ := h
  have e1 : max pos en = pos := by omega
  have e2 : here.col + (en - pos) = here.col := by omega
  rw [e1, e2, hd] at h6 h7
  exact ⟨h6, h7⟩
theorem ci_broken (h : CI l pos en rem here acc) (hge : en ≤ pos) (hd : l.drop pos = c :: r) (hb : brok (c :: r) = true) : (cutL l false firstP).2 = some (here, 4) := by
  have := (ci_here h hge hd).2
  rw [cutL, if_pos hb] at this
  exact this.symm
/-- On to the next rune. -/
theorem ci_next (h : CI l pos en rem here acc) (hge : en ≤ pos) (hd : l.drop pos = c :: r) (rem2 : Bool) (he : cutL (c :: r) rem here = cutL (r.drop ((dec (c :: r)).2 - 1)) rem2 (behindP here (dec (c :: r)).1)) :
    CI l (pos + (dec (c :: r)).2) en rem2 (behindP here (dec (c :: r)).1) acc := by
  have hh := ci_here h hge hd
  obtain ⟨h1, h2, h3, h4, h5, h6, h7⟩ := h
  have hp := dec_pos (c :: r)
  have hb := behind_bound here (dec (c :: r)).1 pos (dec (c :: r)).2 h4 h5 hp
  rw [he, tail_drop c r _ hp, ← hd, List.drop_drop, hd] at hh
  generalize (dec (c :: r)).2 = n at *
  generalize behindP here (dec (c :: r)).1 = b at *
  refine ⟨h1, fun j d hj hj2 => by omega, fun hx => by omega, hb.1, hb.2, ?_⟩
  have e1 : max (pos + n) en = pos + n := by omega
  have e2 : b.col + (en - (pos + n)) = b.col := by omega
  rw [e1, e2]
  exact hh
theorem cut_line (hb : brok (c :: r) = false) (h10 : (dec (c :: r)).1 = 10) : cutL (c :: r) rem here = cutL (r.drop ((dec (c :: r)).2 - 1)) false (behindP here (dec (c :: r)).1) := by
  rw [cutL, if_neg (by rw [hb]; decide), if_pos h10, h10]
theorem cut_pass (hb : brok (c :: r) = false) (h10 : (dec (c :: r)).1 ≠ 10) (hs : rem = true ∨ (dec (c :: r)).1 = 32 ∨ (dec (c :: r)).1 = 9) : cutL (c :: r) rem here = cutL (r.drop ((dec (c :: r)).2 - 1)) rem (behindP here (dec (c :: r)).1) := by
  rw [cutL, if_neg (by rw [hb]; decide), if_neg h10, if_pos hs]
theorem cut_remark (hb : brok (c :: r) = false) (h10 : (dec (c :: r)).1 ≠ 10) (hs : ¬ (rem = true ∨ (dec (c :: r)).1 = 32 ∨ (dec (c :: r)).1 = 9)) (h35 : (dec (c :: r)).1 = 35) : cutL (c :: r) rem here = cutL (r.drop ((dec (c :: r)).2 - 1)) true (behindP here (dec (c :: r)).1) := by
  rw [cutL, if_neg (by rw [hb]; decide), if_neg h10, if_neg hs, if_pos h35]
theorem cut_bad {e : Nat} (hb : brok (c :: r) = false) (h10 : (dec (c :: r)).1 ≠ 10) (hs : ¬ (rem = true ∨ (dec (c :: r)).1 = 32 ∨ (dec (c :: r)).1 = 9)) (h35 : (dec (c :: r)).1 ≠ 35) (ht : tokF (pieceF (c :: r)) = .error e) : cutL (c :: r) rem here = ([], some (here, e)) := by
  rw [cutL, if_neg (by rw [hb]; decide), if_neg h10, if_neg hs, if_neg h35, ht]
theorem cut_tok {t : Tk} (hb : brok (c :: r) = false) (h10 : (dec (c :: r)).1 ≠ 10) (hs : ¬ (rem = true ∨ (dec (c :: r)).1 = 32 ∨ (dec (c :: r)).1 = 9)) (h35 : (dec (c :: r)).1 ≠ 35) (ht : tokF (pieceF (c :: r)) = .ok t) :
    (cutL (c :: r) rem here).1 = (t, here) :: (cutL ((c :: r).drop (pieceF (c :: r)).length) false ⟨here.line, here.col + (pieceF (c :: r)).length⟩).1 ∧ (cutL (c :: r) rem here).2 = (cutL ((c :: r).drop (pieceF (c :: r)).length) false ⟨here.line, here.col + (pieceF (c :: r)).length⟩).2 := by
  have hp := (piece_len (c :: r)).2 (by simp)
  rw [cutL, if_neg (by rw [hb]; decide), if_neg h10, if_neg hs, if_neg h35, ht]
  simp only
  rw [tail_drop c r _ hp]
  exact ⟨rfl, rfl⟩
theorem ci_bad {e : Nat} (h : CI l pos en rem here acc) (hge : en ≤ pos) (hd : l.drop pos = c :: r) (he : cutL (c :: r) rem here = ([], some (here, e))) : (cutL l false firstP).2 = some (here, e) := by
  have := (ci_here h hge hd).2
  rw [he] at this
  exact this.symm
/-- A token. -/
theorem ci_tok {t : Tk} (h : CI l pos en rem here acc) (hge : en ≤ pos) (hd : l.drop pos = c :: r) (hb : brok (c :: r) = false) (h10 : (dec (c :: r)).1 ≠ 10) (hs : ¬ (rem = true ∨ (dec (c :: r)).1 = 32 ∨ (dec (c :: r)).1 = 9)) (h35 : (dec (c :: r)).1 ≠ 35) (ht : tokF (pieceF (c :: r)) = .ok t) :
    (dec (c :: r)).2 = 1 ∧ 1 ≤ t.s.length ∧ pos + t.s.length ≤ l.length ∧ CI l (pos + 1) (pos + t.s.length) rem (behindP here (dec (c :: r)).1) (acc ++ [(t, here)]) := by
  have hh := ci_here h hge hd
  have hcut := cut_tok (here := here) hb h10 hs h35 ht
  obtain ⟨ts, tne, tasc⟩ := tok_ascii _ _ ht
  have hpl := piece_len (c :: r)
  have hpt := piece_take (c :: r)
  have hp1 := hpl.2 (by simp)
  have hlen : l.length = pos + (c :: r).length := by
    have := congrArg List.length hd
    rw [List.length_drop] at this
    have : pos < l.length := by
      rcases Nat.lt_or_ge pos l.length with h | h
      · exact h
      · rw [List.drop_of_length_le h] at hd; cases hd
    omega
  have hc : c.toNat < 128 ∧ c.toNat ≠ 10 := tasc c (by
    rw [hpt]
    obtain ⟨k, hk⟩ : ∃ k, (pieceF (c :: r)).length = k + 1 := ⟨(pieceF (c :: r)).length - 1, by omega⟩
    rw [hk, List.take_succ_cons]
    exact List.mem_cons_self ..)
  have hrem : rem = false := by
    cases rem with
    | false => rfl
    | true => exact absurd (.inl rfl) hs
  obtain ⟨h1, h2, h3, h4, h5, h6, h7⟩ := h
  rw [ts]
  rw [hcut.1, hcut.2, ← hd, List.drop_drop, hd] at hh
  rw [dec_ascii c r hc.1]
  have e : behindP here c.toNat = ⟨here.line, here.col + 1⟩ := by unfold behindP; rw [if_neg hc.2]
  refine ⟨rfl, hp1, by omega, by omega, ?_, fun _ => hrem, ?_⟩
  · intro j d hj hj2 hjd
    refine tasc d ?_
    rw [hpt]
    have hj' : (c :: r)[j - pos]? = some d := by
      rw [← hd, List.getElem?_drop, show pos + (j - pos) = j by omega]; exact hjd
    refine List.mem_of_getElem? (i := j - pos) ?_
    rw [List.getElem?_take, if_pos (by omega)]
    exact hj'
  · show (behindP here c.toNat).line ≤ _ ∧ (behindP here c.toNat).col ≤ _ ∧ _
    rw [e]
    generalize (pieceF (c :: r)).length = m at *
    have e1 : max (pos + 1) (pos + m) = pos + m := by omega
    have e2 : here.col + 1 + (pos + m - (pos + 1)) = here.col + m := by omega
    rw [e1, e2, hrem, List.append_assoc]
    exact ⟨by show here.line ≤ _; omega, by show here.col + 1 ≤ _; omega, hh.1, hh.2⟩
theorem ci_end (h : CI l pos en rem here acc) (hp : l.length ≤ pos) : (cutL l false firstP).1 = acc ∧ (cutL l false firstP).2 = none := by
  obtain ⟨h1, h2, h3, h4, h5, h6, h7⟩ := h
  rw [List.drop_of_length_le (by omega), cutL] at h6 h7
  rw [List.append_nil] at h6
  exact ⟨h6.symm, h7.symm⟩
end
end Go.Proofs.YtkfnkieljcipnaaGreatDoor
