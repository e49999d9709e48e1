/-
  Contracts of lex.read, lex.number: a piece that is to be a number (of at most 2^47 bytes); under: the tables hold what the program lays (LaidW).
-/
import Derived.Test.YtinjhnflnfpoeaaGreatDoorLD
import Derived.Lib.ParseIntBCases
import Derived.Lib.AtoiErrMem
namespace Go.Proofs.YtinjhnflnfpoeaaGreatDoor
open Go Go.RowKit Go.Joins

def smallI (v : Int) : Bool := decide (-1000000000000000000 < v) && decide (v < 1000000000000000000)
theorem small_top {v : Int} (h : smallI v = true) : topB v = true := by
  simp only [smallI, topB, Bool.and_eq_true, decide_eq_true_eq] at h ⊢; omega

theorem parseM (M : Nat) : ∀ (l : List UInt8) (acc : Nat), isDigits l → M = 18446744073709551615 → l.foldl (fun n c => 10 * n + (c.toNat - 48)) acc < 1000000000000000000 → Lib.parseUintM M acc l = .ok (l.foldl (fun n c => 10 * n + (c.toNat - 48)) acc) := by
  intro l
  induction l with
  | nil => intro acc _ _ _; rfl
  | cons c r ih =>
    intro acc hd hM hv
    have hc := hd c (List.mem_cons_self ..)
    have hge : ∀ (r : List UInt8) (a : Nat), a ≤ r.foldl (fun n c => 10 * n + (c.toNat - 48)) a := by
      intro r
      induction r with
      | nil => intro a; exact Nat.le_refl _
      | cons d r ih => intro a; rw [List.foldl_cons]; exact Nat.le_trans (by omega) (ih _)
    rw [List.foldl_cons] at hv ⊢
    have h1 := hge r (10 * acc + (c.toNat - 48))
    rw [Lib.parseUintM, if_pos hc, if_neg (by omega), if_neg (by omega), show acc * 10 + (c.toNat - 48) = 10 * acc + (c.toNat - 48) by omega]
    exact ih _ (fun d hdm => hd d (List.mem_cons_of_mem _ hdm)) hM hv

theorem parse_num (p : List UInt8) (hne : sizeF p ≠ []) (hd : isDigits (sizeF p)) (hl : (sizeF p).length ≤ 18) : Lib.parseIntB 64 p = .ok (valF p) := by
  have htw : (sizeF p).takeWhile digB = sizeF p := takeWhile_all _ _ (List.all_eq_true.2 fun c hc => by have := hd c hc; simp [digB, this])
  have hv := decV_18 _ hd hl
  have hU : Lib.parseUintB 64 (sizeF p) = .ok (decV (sizeF p)) := by
    unfold Lib.parseUintB
    rw [if_neg hne]
    exact parseM _ _ 0 hd (by decide) hv
  unfold valF
  rw [htw]
  match p with
  | [] => exact absurd rfl hne
  | c :: r =>
    by_cases h : c = 45
    · subst h
      have e : sizeF (45 :: r) = r := by rw [sizeF_cons, if_pos rfl]
      rw [e] at hU hv ⊢
      rw [Lib.parseIntB_minus, hU]
      have : minusB (45 :: r) = true := rfl
      rw [this, Lib.signedC, if_neg (by omega), if_pos rfl]
    · have e : sizeF (c :: r) = c :: r := by rw [sizeF_cons, if_neg h]
      rw [e] at hU hv hd ⊢
      have hc := hd c (List.mem_cons_self ..)
      rw [Lib.parseIntB_plain _ _ _ (by omega) (by omega), hU]
      have : minusB (c :: r) = false := beq_eq_false_iff_ne.2 h
      rw [this, Lib.signlessC, if_neg (by omega)]
      rfl

def bA (l : List UInt8) : ByteArray := ⟨l.toArray⟩
theorem bA_data (s : ByteArray) : bA s.data.toList = s := by apply ByteArray.ext; simp [bA]
theorem bA_size (l : List UInt8) : (bA l).size = l.length := by simp [bA, ByteArray.size]
theorem bA_list (l : List UInt8) : (bA l).data.toList = l := rfl
theorem bA_app (a b : List UInt8) : bA (a ++ b) = bA a ++ bA b := by apply ByteArray.ext; rw [ByteArray.data_append]; apply Array.ext'; simp [bA]

theorem read_time (p : List UInt8) (ps : Int) (w : World) (hL : LaidW w) (hu : unitF ((sizeF p).dropWhile digB) = some ps) (hd : (sizeF p).takeWhile digB ≠ []) (h18 : ((sizeF p).takeWhile digB).length ≤ 18) (hsz : p.length ≤ 4611686018427387904) :
    Calls Tryz.prog 82 #[.string (bA p)] w fun e w' => e = .returned (.tuple #[.int .i64 (timV (valF p * ps)), .int .i64 (timE (valF p * ps))]) ∧ Below w.heap.size w w' := by
  have hdg := digs_is (sizeF p)
  have hsl : (sizeF p).length ≤ p.length := by
    cases p with
    | nil => exact Nat.le_refl _
    | cons c r => rw [sizeF_cons]; split <;> simp
  refine read_gen (bA p) (bA (sizeF p)) (bA ((sizeF p).takeWhile digB)) (bA ((sizeF p).dropWhile digB)) (minusB p) ps (valF p) w hL (size_eq p).1 (size_eq p).2 (unit_is hu) ?_ ?_ hdg ?_ ?_ ?_ rfl
  · rw [← bA_app, List.takeWhile_append_dropWhile]
  · exact trim_eq _
  · rw [bA_size]; exact List.length_pos_iff.2 hd
  · rw [bA_size]; omega
  · exact decV_18 _ hdg h18

theorem lread_time (p : List UInt8) (ps : Int) (w : World) (hL : LaidW w) (hu : unitF ((sizeF p).dropWhile digB) = some ps) (hd : (sizeF p).takeWhile digB ≠ []) (h18 : ((sizeF p).takeWhile digB).length ≤ 18) (hsz : p.length ≤ 4611686018427387904) :
    Calls Tryz.prog 69 #[.string (bA p), .bool true] w fun e w' => e = .returned (.tuple #[.int .i64 (timV (valF p * ps)), .bool (smallI (valF p * ps))]) ∧ Below w.heap.size w w' := by
  have HR := hid (read_time p ps w hL hu hd h18 hsz)
  clear hu hd h18 hsz hL
  generalize valF p * ps = v at *
  have HT := hid (show timE v = 0 → smallI (timV v) = smallI v from fun h => by
    unfold timE at h; unfold timV
    split at h
    · rename_i h1; rw [if_pos h1]
    · cases h)
  have HN := hid (show timE v ≠ 0 → smallI v = false from fun h => by
    unfold timE at h
    split at h
    · exact absurd rfl h
    · rename_i h1
      cases hs : smallI v with
      | false => rfl
      | true => exact absurd (small_top hs) h1)
  have hS := fun w => small_any (timV v) w
  have e : (decide (-1000000000000000000 < timV v) && decide (timV v < 1000000000000000000)) = smallI (timV v) := rfl
  rw [e] at hS
  clear e
  generalize timV v = X at *
  generalize timE v = Y at *
  generalize smallI v = B at *
  generalize smallI X = C at *
  have HS := hid hS
  clear hS
  by_cases h : Y = 0
  · have hb := HT.out h
    subst h
    subst hb
    clear HT HN
    go_enter Tryz.func69, Tryz.ntmps69
    go_wp2_with (first
      | (go_at_call 82; refine HR.out.mono ?_; rintro e w1 ⟨rfl, g1⟩)
      | (go_at_call 83; refine (HS.out _).mono ?_; rintro e w2 ⟨rfl, rfl⟩))
    go_ret2
    exact ⟨by simp, g1⟩
  · have hb := HN.out h
    subst hb
    clear HT HN
    have hy : (Y == 0) = false := beq_eq_false_iff_ne.2 h
    go_enter Tryz.func69, Tryz.ntmps69
    go_wp2_with (first
      | (go_at_call 82; refine HR.out.mono ?_; rintro e w1 ⟨rfl, g1⟩)
      | (go_at_call 83; refine (HS.out _).mono ?_; rintro e w2 ⟨rfl, rfl⟩))
    go_ret2
    exact ⟨by simp, g1⟩

theorem lread_num (p : List UInt8) (w : World) (hne : sizeF p ≠ []) (hd : isDigits (sizeF p)) (hl : (sizeF p).length ≤ 18) (hsz : p.length ≤ 4611686018427387904) :
    Calls Tryz.prog 69 #[.string (bA p), .bool false] w fun e w' => e = .returned (.tuple #[.int .i64 (valF p), .bool true]) ∧ Below w.heap.size w w' := by
  have HP := hid (fun w => Tryz.strconv_ParseInt_10_at64_ok (bA p) (by rw [bA_size]; omega) (valF p) (parse_num p hne hd hl) w)
  clear hne hd hl hsz
  generalize valF p = v at *
  go_enter Tryz.func69, Tryz.ntmps69
  go_wp2_with (first
    | (go_at_call 84; refine (HP.out _).mono ?_; rintro e w1 ⟨rfl, hw⟩; have g1 : Below w.heap.size w w1 := (by rcases hw with rfl | ⟨t, rfl⟩ <;> first | exact Below.refl _ _ | exact Lib.bytesWorld_below _ _ _); clear hw))
  go_quiet (fail)
  go_wp2_with fail
  go_ret2
  exact ⟨rfl, bel_drewN g1 _⟩

/-- what a piece is told to be -/
def tokR (r : Except Nat Tk) : Value := match r with
  | .ok t => .tuple #[tkV t, .int .i64 0]
  | .error e => .tuple #[tkV ⟨0, [], 0, false⟩, .int .i64 (e : Int)]

theorem trimp_any (s rest : ByteArray) (w : World) (h1 : Lib.trimPrefix s.data.toList [45] = rest.data.toList) :
    Calls Tryz.prog 66 #[.string s, .string ⟨#[45]⟩] w fun e w' => e = .returned (.string rest) ∧ w' = w := by
  refine (Tryz.strings_TrimPrefix s ⟨#[45]⟩ w).mono ?_
  rintro e w' ⟨rfl, rfl⟩
  have e1 : Lib.trimPrefix s.data.toList (#[45] : Array UInt8).toList = rest.data.toList := h1
  refine ⟨?_, rfl⟩
  show Ending.returned (.string ⟨(Lib.trimPrefix s.data.toList (#[45] : Array UInt8).toList).toArray⟩) = _
  rw [e1, Array.toArray_toList]

theorem ne_emp {l : List UInt8} (h : ¬ l = []) : l.isEmpty = false := by cases l with
  | nil => exact absurd rfl h
  | cons _ _ => rfl
set_option maxRecDepth 100000 in
theorem lnum_any (p : List UInt8) (w : World) (hL : LaidW w) (hsz : p.length ≤ 140737488355328) :
    Calls Tryz.prog 54 #[.string (bA p)] w fun e w' => e = .returned (tokR (numF p)) ∧ Below w.heap.size w w' := by
  obtain ⟨u, hu⟩ : ∃ u, (sizeF p).dropWhile digB = u := ⟨_, rfl⟩
  obtain ⟨d, hd⟩ : ∃ d, (sizeF p).takeWhile digB = d := ⟨_, rfl⟩
  obtain ⟨z, hz⟩ : ∃ z, sizeF p = z := ⟨_, rfl⟩
  have hcat : d ++ u = z := by rw [← hd, ← hu, hz]; exact List.takeWhile_append_dropWhile
  have hzl : z.length ≤ p.length := by
    rw [← hz]
    cases p with
    | nil => exact Nat.le_refl _
    | cons c r => rw [sizeF_cons]; split <;> simp
  have hlen : (z.length : Int) - (u.length : Int) = (d.length : Int) := by rw [← hcat, List.length_append]; omega
  have HT := hid (fun w => trimp_any (bA p) (bA z) w (by rw [← hz]; exact (size_eq p).1))
  have HU := hid (fun w => trim_any (bA z) (bA u) w (by rw [← hu, ← hz]; exact trim_eq _))
  have hsu := bA_size u
  have hsz2 := bA_size z
  have h1 : Hid (numF p = (if d = [] ∨ (u ≠ [] ∧ unitF u = none) then .error 4 else if 18 < d.length then .error 6 else match unitF u with
    | some ps => if -1000000000000000000 < valF p * ps ∧ valF p * ps < 1000000000000000000 then .ok ⟨2, p, valF p * ps, true⟩ else .error 2
    | none => .ok ⟨2, p, valF p, false⟩)) := hid (by subst hu; subst hd; rfl)
  have HL := hid hL
  have HR := hid (fun (hne : d ≠ []) (h18 : d.length ≤ 18) (ps : Int) (hups : unitF u = some ps) w hL => lread_time p ps w hL (by rw [hu]; exact hups) (by rw [hd]; exact hne) (by rw [hd]; exact h18) (by omega))
  have HQ := hid (fun (hne : d ≠ []) (h18 : d.length ≤ 18) (hu0 : u = []) w => lread_num p w (by rw [hz, ← hcat, hu0, List.append_nil]; exact hne) (by have := digs_is (sizeF p); rw [hd] at this; rw [hz, ← hcat, hu0, List.append_nil]; exact this) (by rw [hz, ← hcat, hu0, List.append_nil]; exact h18) (by omega))
  have HCl := hid (fun w => clone_any (bA p) w (by rw [bA_size]; omega))
  have hue : u = [] ↔ (bA u).toList = [] := by rw [ByteArray.toList_eq]; rfl
  have hN : ∃ (kv : Int) (bt : Bool), (∀ w, LaidW w → Calls Tryz.prog 68 #[.string (bA u)] w fun e w' => e = .returned (.tuple #[.int .i64 kv, .bool bt]) ∧ Below w.heap.size w w') ∧ (bt = true ↔ unitF u ≠ none) := by
    cases hus : unitF u with
    | none => exact ⟨0, false, fun w hL => unit_none (bA u) w hL hus, by simp⟩
    | some ps => exact ⟨ps, true, fun w hL => unit_any (unit_is hus) w hL, by simp⟩
  obtain ⟨kv, bt, hN, hbt⟩ := hN
  have HN := hid hN
  have HB : Hid ((bA z).size ≤ 140737488355328 ∧ (bA u).size ≤ (bA z).size) := hid (by rw [hsu, hsz2]; exact ⟨by omega, by rw [← hcat, List.length_append]; omega⟩)
  have HB : Hid ((bA z).size ≤ 140737488355328 ∧ (bA u).size ≤ (bA z).size) := hid (by rw [hsu, hsz2]; exact ⟨by omega, by rw [← hcat, List.length_append]; omega⟩)
  clear hN hL hsz hzl
  rw [hz, hu, hd] at *
  generalize hm1 : (bA z).size = m1 at *
  generalize hm2 : (bA u).size = m2 at *
  have hb1 : m1 ≤ 140737488355328 := HB.out.1
  have hb2 : m2 ≤ m1 := HB.out.2
  clear HB
  have hb1 : m1 ≤ 140737488355328 := HB.out.1
  have hb2 : m2 ≤ m1 := HB.out.2
  clear HB
  have hz0 : Hid (z.length = m1) := hid hsz2.symm
  have hu0 : Hid (u.length = m2) := hid hsu.symm
  clear hsu hsz2 hcat hu hd hz
  by_cases hA : d = []
  · rw [if_pos (.inl hA)] at h1
    have hmm : ((m1 : Int) - m2 == 0) = true := beq_iff_eq.2 (by have := hz0.out; have := hu0.out; rw [hA] at hlen; simp at hlen; omega)
    clear hz0 hu0 hlen hA HR HQ HCl hbt hue
    go_enter Tryz.func54, Tryz.ntmps54
    go_wp2_with (first
      | (refine Sh.wp_sv tkS (x := ⟨0, [], 0, false⟩) rfl (.tmp 2) (.tmp 36) rfl rfl (by rfl) q3 ?_; intro w9 q9 b9 o9 _)
      | (go_at_call 68; refine (HN.out _ (HL.out.below (b1.trans (g2.mono b1.size)))).mono ?_; rintro e w3 ⟨rfl, g3⟩; have q3 := q2.keep g3; have B3 : Hid (Below w.heap.size w w3) := hid ((b1.trans (g2.mono b1.size)).trans (g3.mono (Nat.le_trans b1.size g2.size))); clear q1 q2 g2 g3 b1)
      | (go_at_call 67; refine (HU.out _).mono ?_; rintro e w2 ⟨rfl, g2⟩; have q2 := q1.keep g2)
      | (go_at_call 66; refine (HT.out _).mono ?_; rintro e w' ⟨rfl, rfl⟩)
      | (refine Sh.wp_al tkS rfl rfl ?_; intro w1 q1 b1 s1; clear s1))
    exact bodyPost_ret (results_t1 Tryz.results54 _ rfl q9) rfl ⟨by rw [h1.out]; rfl, B3.out.trans (b9.mono (Nat.le_refl _))⟩
  have hmm : ((m1 : Int) - m2 == 0) = false := beq_eq_false_iff_ne.2 (by have := hz0.out; have := hu0.out; have := List.length_pos_iff.2 hA; omega)
  by_cases hB : u ≠ [] ∧ unitF u = none
  · rw [if_pos (.inr hB)] at h1
    have hue1 : (bA u).toList.isEmpty = false := ne_emp fun h => hB.1 (hue.2 h)
    obtain rfl : bt = false := by
      cases bt with
      | false => rfl
      | true => exact absurd hB.2 (hbt.1 rfl)
    clear hz0 hu0 hlen hA HR HQ HCl hbt hue hB
    go_enter Tryz.func54, Tryz.ntmps54
    go_wp2_with (first
      | (refine Sh.wp_sv tkS (x := ⟨0, [], 0, false⟩) rfl (.tmp 2) (.tmp 36) rfl rfl (by rfl) q3 ?_; intro w9 q9 b9 o9 _)
      | (go_at_call 68; refine (HN.out _ (HL.out.below (b1.trans (g2.mono b1.size)))).mono ?_; rintro e w3 ⟨rfl, g3⟩; have q3 := q2.keep g3; have B3 : Hid (Below w.heap.size w w3) := hid ((b1.trans (g2.mono b1.size)).trans (g3.mono (Nat.le_trans b1.size g2.size))); clear q1 q2 g2 g3 b1)
      | (go_at_call 67; refine (HU.out _).mono ?_; rintro e w2 ⟨rfl, g2⟩; have q2 := q1.keep g2)
      | (go_at_call 66; refine (HT.out _).mono ?_; rintro e w' ⟨rfl, rfl⟩)
      | (refine Sh.wp_al tkS rfl rfl ?_; intro w1 q1 b1 s1; clear s1))
    exact bodyPost_ret (results_t1 Tryz.results54 _ rfl q9) rfl ⟨by rw [h1.out]; rfl, B3.out.trans (b9.mono (Nat.le_refl _))⟩
  rw [if_neg (by intro h; rcases h with h | h; exact hA h; exact hB h)] at h1
  have hBt : (bA u).toList.isEmpty = true ∨ ((bA u).toList.isEmpty = false ∧ bt = true) := by
    by_cases hu1 : u = []
    · exact .inl (List.isEmpty_iff.2 (hue.1 hu1))
    · refine .inr ⟨ne_emp fun h => hu1 (hue.2 h), hbt.2 fun h => hB ⟨hu1, h⟩⟩
  by_cases hC : 18 < d.length
  · rw [if_pos hC] at h1
    have h18 : 18 < (m1 : Int) - m2 := by have := hz0.out; have := hu0.out; omega
    clear hz0 hu0 hlen hA HR HQ HCl hbt hue hB hC
    rcases hBt with hue1 | ⟨hue1, rfl⟩
    · go_enter Tryz.func54, Tryz.ntmps54
      go_wp2_with (first
        | (refine Sh.wp_sv tkS (x := ⟨0, [], 0, false⟩) rfl (.tmp 2) (.tmp 40) rfl rfl (by rfl) q3 ?_; intro w9 q9 b9 o9 _)
        | (go_at_call 68; refine (HN.out _ (HL.out.below (b1.trans (g2.mono b1.size)))).mono ?_; rintro e w3 ⟨rfl, g3⟩; have q3 := q2.keep g3; have B3 : Hid (Below w.heap.size w w3) := hid ((b1.trans (g2.mono b1.size)).trans (g3.mono (Nat.le_trans b1.size g2.size))); clear q1 q2 g2 g3 b1)
        | (go_at_call 67; refine (HU.out _).mono ?_; rintro e w2 ⟨rfl, g2⟩; have q2 := q1.keep g2)
        | (go_at_call 66; refine (HT.out _).mono ?_; rintro e w' ⟨rfl, rfl⟩)
        | (refine Sh.wp_al tkS rfl rfl ?_; intro w1 q1 b1 s1; clear s1))
      exact bodyPost_ret (results_t1 Tryz.results54 _ rfl q9) rfl ⟨by rw [h1.out]; rfl, B3.out.trans (b9.mono (Nat.le_refl _))⟩
    · go_enter Tryz.func54, Tryz.ntmps54
      go_wp2_with (first
        | (refine Sh.wp_sv tkS (x := ⟨0, [], 0, false⟩) rfl (.tmp 2) (.tmp 40) rfl rfl (by rfl) q3 ?_; intro w9 q9 b9 o9 _)
        | (go_at_call 68; refine (HN.out _ (HL.out.below (b1.trans (g2.mono b1.size)))).mono ?_; rintro e w3 ⟨rfl, g3⟩; have q3 := q2.keep g3; have B3 : Hid (Below w.heap.size w w3) := hid ((b1.trans (g2.mono b1.size)).trans (g3.mono (Nat.le_trans b1.size g2.size))); clear q1 q2 g2 g3 b1)
        | (go_at_call 67; refine (HU.out _).mono ?_; rintro e w2 ⟨rfl, g2⟩; have q2 := q1.keep g2)
        | (go_at_call 66; refine (HT.out _).mono ?_; rintro e w' ⟨rfl, rfl⟩)
        | (refine Sh.wp_al tkS rfl rfl ?_; intro w1 q1 b1 s1; clear s1))
      exact bodyPost_ret (results_t1 Tryz.results54 _ rfl q9) rfl ⟨by rw [h1.out]; rfl, B3.out.trans (b9.mono (Nat.le_refl _))⟩
  rw [if_neg hC] at h1
  have h18 : ¬ 18 < (m1 : Int) - m2 := by have := hz0.out; have := hu0.out; omega
  cases hus : unitF u with
  | none =>
    have hu1 : u = [] := Classical.byContradiction fun h => hB ⟨h, hus⟩
    rw [hus] at h1 hbt
    obtain rfl : bt = false := by
      cases bt with
      | false => rfl
      | true => exact absurd rfl (hbt.1 rfl)
    have hue1 := List.isEmpty_iff.2 (hue.1 hu1)
    have HRD := hid (fun w (_ : LaidW w) => HQ.out hA (by omega) hu1 w)
    clear hz0 hu0 hlen hA HR HQ hbt hue hB hC hBt hus hu1
    have h1 : Hid (numF p = .ok ⟨2, p, valF p, false⟩) := h1
    generalize valF p = v at *
    go_enter Tryz.func54, Tryz.ntmps54
    go_wp2_with (first
      | (refine Sh.wp_sv tkS (x := ⟨2, p, v, false⟩) rfl (.tmp 2) (.tmp 54) rfl rfl (by rfl) q5 ?_; intro w9 q9 b9 o9 _)
      | (go_at_call 47; refine (HCl.out _).mono ?_; rintro e w5 ⟨rfl, g5⟩; have q5 := q4.keep g5; have B5 : Hid (Below w.heap.size w w5) := hid (B4.out.trans (g5.mono B4.out.size)); clear q4 g5)
      | (go_at_call 69; refine (HRD.out _ (HL.out.below B3.out)).mono ?_; rintro e w4 ⟨rfl, g4⟩; have q4 := q3.keep g4; have B4 : Hid (Below w.heap.size w w4) := hid (B3.out.trans (g4.mono B3.out.size)); clear q3 g4)
      | (go_at_call 68; refine (HN.out _ (HL.out.below (b1.trans (g2.mono b1.size)))).mono ?_; rintro e w3 ⟨rfl, g3⟩; have q3 := q2.keep g3; have B3 : Hid (Below w.heap.size w w3) := hid ((b1.trans (g2.mono b1.size)).trans (g3.mono (Nat.le_trans b1.size g2.size))); clear q1 q2 g2 g3 b1)
      | (go_at_call 67; refine (HU.out _).mono ?_; rintro e w2 ⟨rfl, g2⟩; have q2 := q1.keep g2)
      | (go_at_call 66; refine (HT.out _).mono ?_; rintro e w' ⟨rfl, rfl⟩)
      | (refine Sh.wp_al tkS rfl rfl ?_; intro w1 q1 b1 s1; clear s1))
    exact bodyPost_ret (results_t1 Tryz.results54 _ rfl q9) rfl ⟨by rw [h1.out]; rfl, B5.out.trans (b9.mono (Nat.le_refl _))⟩
  | some ps =>
    have hu1 : u ≠ [] := fun h => by rw [h] at hus; cases hus
    have hue1 : (bA u).toList.isEmpty = false := ne_emp fun h => hu1 (hue.2 h)
    obtain rfl : bt = true := hbt.2 (by rw [hus]; simp)
    have HRD := hid (HR.out hA (by omega) ps hus)
    rw [hus] at h1
    clear hz0 hu0 hlen hA HR HQ hbt hue hB hC hBt hus hu1
    have h1 : Hid (numF p = if -1000000000000000000 < valF p * ps ∧ valF p * ps < 1000000000000000000 then .ok ⟨2, p, valF p * ps, true⟩ else .error 2) := h1
    generalize valF p * ps = v at *
    by_cases hs : smallI v = true
    · have hs' : -1000000000000000000 < v ∧ v < 1000000000000000000 := by simpa [smallI] using hs
      rw [if_pos hs'] at h1
      have ht : timV v = v := by unfold timV; rw [if_pos (small_top hs)]
      rw [hs, ht] at HRD
      clear hs hs' ht
      go_enter Tryz.func54, Tryz.ntmps54
      go_wp2_with (first
        | (refine Sh.wp_sv tkS (x := ⟨2, p, v, true⟩) rfl (.tmp 2) (.tmp 54) rfl rfl (by rfl) q5 ?_; intro w9 q9 b9 o9 _)
        | (go_at_call 47; refine (HCl.out _).mono ?_; rintro e w5 ⟨rfl, g5⟩; have q5 := q4.keep g5; have B5 : Hid (Below w.heap.size w w5) := hid (B4.out.trans (g5.mono B4.out.size)); clear q4 g5)
        | (go_at_call 69; refine (HRD.out _ (HL.out.below B3.out)).mono ?_; rintro e w4 ⟨rfl, g4⟩; have q4 := q3.keep g4; have B4 : Hid (Below w.heap.size w w4) := hid (B3.out.trans (g4.mono B3.out.size)); clear q3 g4)
        | (go_at_call 68; refine (HN.out _ (HL.out.below (b1.trans (g2.mono b1.size)))).mono ?_; rintro e w3 ⟨rfl, g3⟩; have q3 := q2.keep g3; have B3 : Hid (Below w.heap.size w w3) := hid ((b1.trans (g2.mono b1.size)).trans (g3.mono (Nat.le_trans b1.size g2.size))); clear q1 q2 g2 g3 b1)
        | (go_at_call 67; refine (HU.out _).mono ?_; rintro e w2 ⟨rfl, g2⟩; have q2 := q1.keep g2)
        | (go_at_call 66; refine (HT.out _).mono ?_; rintro e w' ⟨rfl, rfl⟩)
        | (refine Sh.wp_al tkS rfl rfl ?_; intro w1 q1 b1 s1; clear s1))
      exact bodyPost_ret (results_t1 Tryz.results54 _ rfl q9) rfl ⟨by rw [h1.out]; rfl, B5.out.trans (b9.mono (Nat.le_refl _))⟩
    · have hs' : ¬ (-1000000000000000000 < v ∧ v < 1000000000000000000) := by simpa [smallI] using hs
      rw [if_neg hs'] at h1
      have hs : smallI v = false := by simpa using hs
      rw [hs] at HRD
      clear hs hs'
      generalize timV v = v2 at *
      go_enter Tryz.func54, Tryz.ntmps54
      go_wp2_with (first
        | (refine Sh.wp_sv tkS (x := ⟨0, [], 0, false⟩) rfl (.tmp 2) (.tmp 49) rfl rfl (by rfl) q4 ?_; intro w9 q9 b9 o9 _)
        | (go_at_call 47; refine (HCl.out _).mono ?_; rintro e w5 ⟨rfl, g5⟩; have q5 := q4.keep g5; have B5 : Hid (Below w.heap.size w w5) := hid (B4.out.trans (g5.mono B4.out.size)); clear q4 g5)
        | (go_at_call 69; refine (HRD.out _ (HL.out.below B3.out)).mono ?_; rintro e w4 ⟨rfl, g4⟩; have q4 := q3.keep g4; have B4 : Hid (Below w.heap.size w w4) := hid (B3.out.trans (g4.mono B3.out.size)); clear q3 g4)
        | (go_at_call 68; refine (HN.out _ (HL.out.below (b1.trans (g2.mono b1.size)))).mono ?_; rintro e w3 ⟨rfl, g3⟩; have q3 := q2.keep g3; have B3 : Hid (Below w.heap.size w w3) := hid ((b1.trans (g2.mono b1.size)).trans (g3.mono (Nat.le_trans b1.size g2.size))); clear q1 q2 g2 g3 b1)
        | (go_at_call 67; refine (HU.out _).mono ?_; rintro e w2 ⟨rfl, g2⟩; have q2 := q1.keep g2)
        | (go_at_call 66; refine (HT.out _).mono ?_; rintro e w' ⟨rfl, rfl⟩)
        | (refine Sh.wp_al tkS rfl rfl ?_; intro w1 q1 b1 s1; clear s1))
      exact bodyPost_ret (results_t1 Tryz.results54 _ rfl q9) rfl ⟨by rw [h1.out]; rfl, B4.out.trans (b9.mono (Nat.le_refl _))⟩
end Go.Proofs.YtinjhnflnfpoeaaGreatDoor
