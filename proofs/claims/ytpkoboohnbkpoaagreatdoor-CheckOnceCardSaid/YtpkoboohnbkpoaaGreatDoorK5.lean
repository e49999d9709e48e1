/-
  PO: The contract of the reader's numbers, at every reader of at most a million tokens.
  PQ: The contract of the reader's block, given what its list tells, at every reader of at most a million tokens.
  PR: The contract of the reader's statement, given what its list tells, at every reader of at most a million tokens.
  PS: The contract of the reader's statement, continued: what follows a word and its numbers is a sign; and the whole, given what its list tells.
  PT: The contract of the reader's statement, continued: what follows a word and its numbers is a {; and the whole, given what its list tells.
  PU: The contract of the reader's list, at every reader of at most a million tokens, however deep; by induction over how many tokens are left.
-/
import Derived.Test.YtpkoboohnbkpoaaGreatDoorK4
/-! PO -/
namespace Go.Proofs.YtpkoboohnbkpoaaGreatDoor
open Go Go.RowKit Go.Joins

def NumsPost (w : World) (g b c many : Nat) (pre rest : List Tk) (e : Ending) (w' : World) : Prop :=
  Mov g w w' ∧ ((fewN rest = true ∧ Rd w' g b c (pre ++ rest.takeWhile isN) (restF rest) many ∧ ∃ A n c', n ≤ 8 ∧ e = .returned (.tuple #[.slice A n c', .int .i64 0]) ∧ RwP nmS w' (fun k => w.heap.size ≤ k ∧ k < w'.heap.size) A n (numsF rest)) ∨
    (fewN rest = false ∧ Rd w' g b c (pre ++ rest.take 8) (rest.drop 8) many ∧ e = .returned (.tuple #[.slice none 0 0, .int .i64 7])))

theorem takeWhile_done {done todo : List Tk} (h : ∀ t ∈ done, isN t = true) (h2 : todo.takeWhile isN = []) : (done ++ todo).takeWhile isN = done ∧ restF (done ++ todo) = todo := by
  have h3 : todo.dropWhile isN = todo := by
    have := List.takeWhile_append_dropWhile (p := isN) (l := todo)
    rw [h2] at this; exact this
  unfold restF
  induction done with
  | nil => exact ⟨h2, h3⟩
  | cons t d ih =>
    have := ih fun x hx => h x (List.mem_cons_of_mem _ hx)
    rw [List.cons_append, List.takeWhile_cons_of_pos (h t (List.mem_cons_self ..)), List.dropWhile_cons_of_pos (h t (List.mem_cons_self ..)), this.1, this.2]
    exact ⟨rfl, rfl⟩
theorem few_done {done todo : List Tk} (h : ∀ t ∈ done, isN t = true) (h2 : todo.takeWhile isN = []) (h8 : done.length ≤ 8) : fewN (done ++ todo) = true ∧ numsF (done ++ todo) = done.map numT := by
  unfold fewN numsF
  rw [(takeWhile_done h h2).1]
  exact ⟨decide_eq_true h8, rfl⟩
theorem few_over {done : List Tk} {t : Tk} {r : List Tk} (h : ∀ t ∈ done, isN t = true) (ht : isN t = true) (h8 : done.length = 8) : fewN (done ++ t :: r) = false ∧ (done ++ t :: r).take 8 = done ∧ (done ++ t :: r).drop 8 = t :: r := by
  refine ⟨decide_eq_false ?_, by rw [← h8]; simp, by rw [← h8]; simp⟩
  have : (done ++ t :: r).takeWhile isN = done ++ t :: r.takeWhile isN := by
    clear h8
    induction done with
    | nil => rw [List.nil_append, List.takeWhile_cons_of_pos ht]; rfl
    | cons u d ih => rw [List.cons_append, List.takeWhile_cons_of_pos (h u (List.mem_cons_self ..)), ih fun x hx => h x (List.mem_cons_of_mem _ hx)]; rfl
  rw [this]
  simp; omega

def lenOf : Value → Nat
  | .slice _ n _ => n
  | _ => 0

set_option maxRecDepth 100000 in
theorem numbers_any {w : World} {g b c many : Nat} {pre rest : List Tk} (h : Rd w g b c pre rest many) : Calls Tryz.prog 153 #[.pointer (some ⟨g, 0, none⟩)] w (NumsPost w g b c many pre rest) := by
  have HG := hid (And.intro h.lt h.ltb)
  have HR := hid h
  clear h
  go_enter Tryz.func153, Tryz.ntmps153
  go_wp2
  go_loopw [4] (fun v4 wr => ∃ (done todo : List Tk) (A : Option Addr) (k c' : Nat), v4 = .slice A k c' ∧ rest = done ++ todo ∧ (∀ t ∈ done, isN t = true) ∧ k ≤ 8 ∧ nmS.Ow wr w.heap.size A k c' (done.map numT) ∧ Rd wr g b c (pre ++ done) todo many ∧ Mov g w wr) (fun v4 _ => 8 - lenOf v4)
  case atStart => exact ⟨[], rest, none, 0, 0, rfl, rfl, by simp, by omega, Sh.Ow.nil _ _, by simpa using HR.out, Mov.refl _ _⟩
  case round =>
    obtain ⟨done, todo, A, k, c', rfl, hre, hall, hk, how, hrd, hmv⟩ := hrel
    have hlen : done.length = k := by have := how.len; simpa using this
    match todo with
    | [] =>
      have HN := hid (now_is hrd (v := .iface 142 (.agg #[])) rfl)
      have ha := as_en (.agg #[])
      have HM := hid hmv
      have HX := hid (And.intro hrd how)
      have HF := hid (And.intro (few_done hall (todo := []) rfl (by omega)) (takeWhile_done hall (todo := []) rfl))
      clear hrd hmv how hall HR
      go_wp2_with (first
        | (refine Sv.wp_sv ntS (x := (0, false)) rfl (.tmp 5) (.tmp 11) rfl rfl (by rfl) q2 ?_; intro w3 q3 b3 o3 s3; have B3 := hid (B2.out.trans (b3.mono B1.out.size)); clear q3 b3 o3 s3)
        | (refine Sv.wp_al ntS rfl rfl ?_; intro w2 q2 b2 s2; have B2 := hid (B1.out.trans (b2.mono B1.out.size)); clear b2 s2)
        | (go_at_call 92; refine HN.out.mono ?_; rintro e w1 ⟨rfl, b1⟩; have B1 := hid b1; clear b1))
      go_ret2
      exact ⟨HM.out.then B3.out (Nat.le_of_lt HG.out.1), .inl ⟨hre ▸ HF.out.1.1, by rw [hre, HF.out.2.1, HF.out.2.2]; exact HX.out.1.below B3.out, A, k, c', hk, rfl, by
        rw [hre, HF.out.1.2]
        exact (HX.out.2.below B3.out).rowP.mono fun _ h _ => ⟨h.1, h.2.1⟩⟩⟩
    | t :: r =>
    rcases kinds t r with ⟨h1, hv⟩ | ⟨h2, hv⟩ | ⟨_, h2, hv⟩
    · have hn : (t :: r).takeWhile isN = [] := List.takeWhile_cons_of_neg (by simp [isN]; omega)
      have HN := hid (now_is hrd hv)
      have ha := as_wn (.string (strB t.s))
      have HM := hid hmv
      have HX := hid (And.intro hrd how)
      have HF := hid (And.intro (few_done hall hn (by omega)) (takeWhile_done hall hn))
      clear hrd hmv how hall HR
      go_wp2_with (first
        | (refine Sv.wp_sv ntS (x := (0, false)) rfl (.tmp 5) (.tmp 11) rfl rfl (by rfl) q2 ?_; intro w3 q3 b3 o3 s3; have B3 := hid (B2.out.trans (b3.mono B1.out.size)); clear q3 b3 o3 s3)
        | (refine Sv.wp_al ntS rfl rfl ?_; intro w2 q2 b2 s2; have B2 := hid (B1.out.trans (b2.mono B1.out.size)); clear b2 s2)
        | (go_at_call 92; refine HN.out.mono ?_; rintro e w1 ⟨rfl, b1⟩; have B1 := hid b1; clear b1))
      go_ret2
      exact ⟨HM.out.then B3.out (Nat.le_of_lt HG.out.1), .inl ⟨hre ▸ HF.out.1.1, by rw [hre, HF.out.2.1, HF.out.2.2]; exact HX.out.1.below B3.out, A, k, c', hk, rfl, by
        rw [hre, HF.out.1.2]
        exact (HX.out.2.below B3.out).rowP.mono fun _ h _ => ⟨h.1, h.2.1⟩⟩⟩
    · have hn : isN t = true := decide_eq_true h2
      have HN := hid (now_is hrd hv)
      have ha := as_nn (.agg #[.int .i64 t.n, .bool t.time])
      have HM := hid hmv
      have HX := hid (And.intro hrd how)
      have HA := hid hall
      clear hmv how hall HR
      by_cases h8 : k = 8
      · subst h8
        have HF := hid (few_over (r := r) HA.out hn hlen)
        clear hrd
        go_wp2_with (first
          | (refine Sv.wp_sv ntS (x := (t.n, t.time)) rfl (.tmp 5) (.tmp 11) rfl rfl (by rfl) q2 ?_; intro w3 q3 b3 o3 s3; have B3 := hid (B2.out.trans (b3.mono B1.out.size)); clear q3 b3 o3 s3)
          | (refine Sv.wp_al ntS rfl rfl ?_; intro w2 q2 b2 s2; have B2 := hid (B1.out.trans (b2.mono B1.out.size)); clear b2 s2)
          | (go_at_call 92; refine HN.out.mono ?_; rintro e w1 ⟨rfl, b1⟩; have B1 := hid b1; clear b1))
        go_ret2
        exact ⟨HM.out.then B3.out (Nat.le_of_lt HG.out.1), .inr ⟨hre ▸ HF.out.1, by rw [hre, HF.out.2.1, HF.out.2.2]; exact HX.out.1.below B3.out, rfl⟩⟩
      · have hk8 : ((k : Int) == 8) = false := beq_eq_false_iff_ne.2 (by omega)
        have HL := hid hrd.le
        clear hrd
        go_upto_region 8 with (first
          | (refine Sh.wp_push nmS (A := A) (c := c') (l := done.map numT) (base := w.heap.size) (x := (t.n, t.time)) rfl (.tmp 19) (.tmp 21) rfl rfl (((HX.out.2.below B3.out)).alloc _) rfl (range_new w3 _ _) (by omega) (Nat.le_trans (Nat.le_trans HM.out.size B3.out.size) (by simp)) ?_; intro A6 c6 w6 own6 gr6; have B6 := hid (((Below.refl _ _).alloc (Nat.le_trans HM.out.size B3.out.size) _).trans (Sh.grown_below nmS ((HX.out.2.below B3.out).alloc _) (Nat.le_trans (Nat.le_trans HM.out.size B3.out.size) (by simp)) gr6)); have O6 := hid own6; clear own6 gr6)
          | (refine Sh.wp_bs nmS (x := (t.n, t.time)) rfl (.tmp 20) rfl rfl ?_)
          | (refine Sv.wp_ld ntS (x := (t.n, t.time)) rfl (.tmp 5) rfl rfl Q3.out.1 ?_)
          | (refine Sv.wp_sv ntS (x := (t.n, t.time)) rfl (.tmp 5) (.tmp 11) rfl rfl (by rfl) q2 ?_; intro w3 q3 b3 o3 s3; have B3 := hid (B2.out.trans (b3.mono B1.out.size)); have Q3 := hid q3; clear q3 b3 o3 s3)
          | (refine Sv.wp_al ntS rfl rfl ?_; intro w2 q2 b2 s2; have B2 := hid (B1.out.trans (b2.mono B1.out.size)); clear b2 s2)
          | (go_at_call 92; refine HN.out.mono ?_; rintro e w1 ⟨rfl, b1⟩; have B1 := hid b1; clear b1))
        have R6 := (HX.out.1.below B3.out).over B6.out HG.out.1 HG.out.2
        have M6 := hid ((HM.out.then B3.out (Nat.le_of_lt HG.out.1)).since B6.out (Nat.le_of_lt HG.out.1))
        have c1 := R6.c1
        have f1 := R6.free (j := 1) (by omega)
        have HR6 := hid R6
        have HK := hid (show ∀ z : Int, z = ((pre ++ done).length : Int) + 1 → _ from fun z hz => R6.at1 (z := z) hz)
        have hkl : ((pre ++ done).length : Int) ≤ 1000000 := by have := R6.le; omega
        have HE := hid (Eq.refl (pre ++ done).length)
        clear R6
        obtain ⟨q, hq⟩ : ∃ q, (pre ++ done).length = q := ⟨_, rfl⟩
        rw [hq] at c1 hkl
        have HQ := hid hq
        clear hq HE
        go_wp2_with fail
        have R7 := HK.out ((q : Int) + 1) (by rw [HQ.out])
        go_roundw
        case rel => exact ⟨done ++ [t], r, A6, k + 1, c6, rfl, by simp [hre], fun x hx => (List.mem_append.1 hx).elim (HA.out x) (fun hx => by rw [List.mem_singleton.1 hx]; exact hn), by omega, by rw [List.map_append]; exact O6.out.mov R7.2 HG.out.1, by rw [← List.append_assoc]; exact R7.1, M6.out.trans R7.2⟩
        case measure => simp [lenOf]; omega
    · have hn : (t :: r).takeWhile isN = [] := List.takeWhile_cons_of_neg (by simp [isN]; omega)
      have HN := hid (now_is hrd hv)
      have ha := as_sn (.string (strB t.s))
      have HM := hid hmv
      have HX := hid (And.intro hrd how)
      have HF := hid (And.intro (few_done hall hn (by omega)) (takeWhile_done hall hn))
      clear hrd hmv how hall HR
      go_wp2_with (first
        | (refine Sv.wp_sv ntS (x := (0, false)) rfl (.tmp 5) (.tmp 11) rfl rfl (by rfl) q2 ?_; intro w3 q3 b3 o3 s3; have B3 := hid (B2.out.trans (b3.mono B1.out.size)); clear q3 b3 o3 s3)
        | (refine Sv.wp_al ntS rfl rfl ?_; intro w2 q2 b2 s2; have B2 := hid (B1.out.trans (b2.mono B1.out.size)); clear b2 s2)
        | (go_at_call 92; refine HN.out.mono ?_; rintro e w1 ⟨rfl, b1⟩; have B1 := hid b1; clear b1))
      go_ret2
      exact ⟨HM.out.then B3.out (Nat.le_of_lt HG.out.1), .inl ⟨hre ▸ HF.out.1.1, by rw [hre, HF.out.2.1, HF.out.2.2]; exact HX.out.1.below B3.out, A, k, c', hk, rfl, by
        rw [hre, HF.out.1.2]
        exact (HX.out.2.below B3.out).rowP.mono fun _ h _ => ⟨h.1, h.2.1⟩⟩⟩
end Go.Proofs.YtpkoboohnbkpoaaGreatDoor

/-! PQ -/
namespace Go.Proofs.YtpkoboohnbkpoaaGreatDoor
open Go Go.RowKit Go.Joins

/-- The reader has gone on from rest to r. -/
def Went (w' : World) (g b c : Nat) (pre rest : List Tk) (m : Nat) (r : List Tk) : Prop := ∃ p, rest = p ++ r ∧ Rd w' g b c (pre ++ p) r m
theorem Went.below {w w' : World} {g b c m : Nat} {pre rest r : List Tk} (h : Went w g b c pre rest m r) (hb : Below w.heap.size w w') : Went w' g b c pre rest m r := by
  obtain ⟨p, e, h⟩ := h; exact ⟨p, e, h.below hb⟩
theorem Went.more {w : World} {g b c m : Nat} {pre rest r q : List Tk} (h : Went w g b c (pre ++ q) rest m r) : Went w g b c pre (q ++ rest) m r := by
  obtain ⟨p, e, h⟩ := h; exact ⟨q ++ p, by rw [e, List.append_assoc], by rwa [← List.append_assoc]⟩
theorem Went.here {w : World} {g b c m : Nat} {pre rest : List Tk} (h : Rd w g b c pre rest m) : Went w g b c pre rest m rest := ⟨[], rfl, by rwa [List.append_nil]⟩
def SlPost (x : Res) (w : World) (g b c : Nat) (pre rest : List Tk) (e : Ending) (w' : World) : Prop :=
  Mov g w w' ∧ match x with
  | .ok f m r => Went w' g b c pre rest m r ∧ ∃ A k c', e = .returned (.tuple #[.slice A k c', .int .i64 0]) ∧ TrS w' (fun k => w.heap.size ≤ k ∧ k < w'.heap.size) A k f
  | .bad er r => (∃ m, Went w' g b c pre rest m r) ∧ (0 < er ∧ er ≤ 7) ∧ e = .returned (.tuple #[.slice none 0 0, .int .i64 (er : Nat)])
def smZ : Sm := ⟨[], none, 0, 0, false, none, 0, 0⟩
def SmPost (x : Res) (w : World) (g b c : Nat) (pre rest : List Tk) (e : Ending) (w' : World) : Prop :=
  Mov g w w' ∧ match x with
  | .ok f m r => Went w' g b c pre rest m r ∧ ∃ y : Sm, e = .returned (.tuple #[smV y, .int .i64 0]) ∧ Tr w' (fun k => w.heap.size ≤ k ∧ k < w'.heap.size) f [y]
  | .bad er r => (∃ m, Went w' g b c pre rest m r) ∧ (0 < er ∧ er ≤ 7) ∧ e = .returned (.tuple #[smV smZ, .int .i64 (er : Nat)])
/-- What list tells, with so much fuel. -/
def ListOk (n : Nat) : Prop := ∀ (deep : Nat) (w : World) (g b c many : Nat) (pre rest : List Tk), deep ≤ 6 → rest.length ≤ n → Rd w g b c pre rest many →
  Calls Tryz.prog 91 #[.pointer (some ⟨g, 0, none⟩), .int .i64 (deep : Nat)] w (SlPost (lstF n deep many rest) w g b c pre rest)
theorem sg_is (l m : List UInt8) : ((strB l).toList == m) = decide (l = m) := by
  rw [ByteArray.toList_eq, Bool.eq_iff_iff, beq_iff_eq, decide_eq_true_eq]
  exact Iff.rfl
theorem sg_ne {l m : List UInt8} (h : ¬ l = m) : ((strB l).toList == m) = false := (sg_is l m).trans (decide_eq_false h)
theorem sg_eq {l m : List UInt8} (h : l = m) : ((strB l).toList == m) = true := (sg_is l m).trans (decide_eq_true h)
def blkX (L : Nat → Nat → List Tk → Res) (d many : Nat) (s : Tk) (r : List Tk) : Res := if 6 < d then .bad 6 (s :: r) else blkF L d many r

set_option maxRecDepth 100000 in
theorem block_any {n : Nat} (hl : ListOk n) {d : Nat} {w : World} {g b c many : Nat} {pre r : List Tk} {s : Tk} (hd : d ≤ 1000) (hr : r.length ≤ n) (h : Rd w g b c pre (s :: r) many) :
    Calls Tryz.prog 155 #[.pointer (some ⟨g, 0, none⟩), .int .i64 (d : Nat)] w (SlPost (blkX (lstF n) d many s r) w g b c pre (s :: r)) := by
  have HG := hid (Nat.le_of_lt h.lt)
  have HR := hid h
  unfold blkX
  by_cases h6 : 6 < d
  · rw [if_pos h6]
    have h6' : (6 : Int) < d := by omega
    clear h
    go_enter Tryz.func155, Tryz.ntmps155
    go_wp2_with fail
    go_ret2
    exact ⟨Mov.refl _ _, ⟨many, .here HR.out⟩, ⟨by omega, by omega⟩, rfl⟩
  · rw [if_neg h6]
    have h6' : ¬ (6 : Int) < d := by omega
    have HL := hid (fun w1 h => hl d w1 g b c many (pre ++ [s]) r (by omega) hr h)
    unfold blkF
    have HS := hid (lst_short n d many r)
    generalize lstF n d many r = x at *
    have c1 := h.c1
    have f1 := h.free (j := 1) (by omega)
    have HGL := hid h.lt
    have HKD := hid (fun (t : Tk) (ht : t ∈ r) => h.kd t (by simp [ht]))
    have hkl : (pre.length : Int) ≤ 1000000 := by have := h.le; omega
    have hk0 : 0 ≤ (pre.length : Int) := by omega
    have HK := hid (show ∀ z : Int, z = (pre.length : Int) + 1 → _ from fun z hz => h.at1 (z := z) hz)
    clear h hl hd
    generalize (pre.length : Int) = q at *
    match x with
    | .bad er r2 =>
      show Calls _ _ _ w (SlPost (.bad er r2) w g b c pre (s :: r))
      go_enter Tryz.func155, Tryz.ntmps155
      go_upto_region 4 with fail
      obtain ⟨R1, M1⟩ := HK.out (q + 1) rfl
      have HL1 := hid (HL.out _ R1)
      have M1 := hid M1
      clear HL HK R1 c1 f1
      generalize w.setCell ⟨g, 1, none⟩ (.int .i64 (q + 1)) = w1 at *
      have HL2 : Hid (Calls Tryz.prog 91 #[.pointer (some ⟨g, 0, none⟩), .int .i64 (d : Nat)] w1 fun e w2 => Mov g w w2 ∧ (∃ m, Went w2 g b c pre (s :: r) m r2) ∧ (0 < er ∧ er ≤ 7) ∧ e = .returned (.tuple #[.slice none 0 0, .int .i64 (er : Nat)])) := hid (HL1.out.mono fun e w2 ⟨h1, ⟨m, h2⟩, h3, h4⟩ => ⟨M1.out.trans h1, ⟨m, h2.more⟩, h3, h4⟩)
      clear HL1 M1
      go_wp2_with (first
        | (go_at_call 91; refine HL2.out.mono ?_; rintro e w2 ⟨m2, h2, h3, rfl⟩; have X2 := hid (And.intro m2 h2); have X3 := hid h3; have hne : ((er : Int) == 0) = false := beq_eq_false_iff_ne.2 (by omega); clear m2 h2 h3))
      go_ret2
      exact ⟨X2.out.1, X2.out.2, X3.out, rfl⟩
    | .ok f m [] =>
      show Calls _ _ _ w (SlPost (.bad 3 ([])) w g b c pre (s :: r))
      go_enter Tryz.func155, Tryz.ntmps155
      go_upto_region 4 with fail
      obtain ⟨R1, M1⟩ := HK.out (q + 1) rfl
      have HL1 := hid (HL.out _ R1)
      have M1 := hid M1
      clear HL HK R1 c1 f1
      generalize w.setCell ⟨g, 1, none⟩ (.int .i64 (q + 1)) = w1 at *
      have HL2 : Hid (Calls Tryz.prog 91 #[.pointer (some ⟨g, 0, none⟩), .int .i64 (d : Nat)] w1 fun e w2 => ∃ A k c', e = .returned (.tuple #[.slice A k c', .int .i64 0]) ∧ Mov g w w2 ∧ Went w2 g b c pre (s :: r) m ([]) ∧ TrS w2 (fun k => w.heap.size ≤ k ∧ k < w2.heap.size) A k f) := hid (HL1.out.mono fun e w2 ⟨h1, h2, A, k, c', h3, h4⟩ => ⟨A, k, c', h3, M1.out.trans h1, h2.more, h4.mono fun _ h _ => ⟨Nat.le_trans M1.out.size h.1, h.2⟩⟩)
      clear HL1 M1
      go_upto_region 7 with (first
        | (go_at_call 91; refine HL2.out.mono ?_; rintro e w2 ⟨A, k, c', rfl, m2, h2, h3⟩; have M2 := hid m2; have hw := h2; have T2 := hid h3; clear m2 h2 h3))
      obtain ⟨p, hp, hrd⟩ := hw
      have hw : Went w2 g b c pre (s :: r) m ([]) := ⟨p, hp, hrd⟩
      have HW := hid hw
      have HN := hid (now_is hrd (v := .iface 142 (.agg #[])) rfl)
      have HX := hid (fun w' h => wrong_any (hrd.below (w' := w') h))
      have ha := as_es (.agg #[])
      clear hrd hw
      go_wp2_with (first
        | (go_at_call 154; refine (HX.out _ B3.out).mono ?_; rintro e w4 ⟨rfl, b4⟩; have B4 := hid (B3.out.trans (b4.mono B3.out.size)); clear b4)
        | (go_at_call 92; refine HN.out.mono ?_; rintro e w3 ⟨rfl, b3⟩; have B3 := hid b3; clear b3))
      go_ret2
      exact ⟨M2.out.then B4.out HG.out, ⟨m, HW.out.below B4.out⟩, ⟨by decide, by decide⟩, rfl⟩
    | .ok f m (t :: r3) =>
      rcases kinds t r3 with ⟨h1, hv⟩ | ⟨h2, hv⟩ | ⟨h1, h2, hv⟩
      · have e1 : (if t.kind = 3 ∧ t.s = [125] then Res.ok f m r3 else .bad 4 (t :: r3)) = .bad 4 (t :: r3) := if_neg (by omega)
        simp only [e1]
        show Calls _ _ _ w (SlPost (.bad 4 (t :: r3)) w g b c pre (s :: r))
        go_enter Tryz.func155, Tryz.ntmps155
        go_upto_region 4 with fail
        obtain ⟨R1, M1⟩ := HK.out (q + 1) rfl
        have HL1 := hid (HL.out _ R1)
        have M1 := hid M1
        clear HL HK R1 c1 f1
        generalize w.setCell ⟨g, 1, none⟩ (.int .i64 (q + 1)) = w1 at *
        have HL2 : Hid (Calls Tryz.prog 91 #[.pointer (some ⟨g, 0, none⟩), .int .i64 (d : Nat)] w1 fun e w2 => ∃ A k c', e = .returned (.tuple #[.slice A k c', .int .i64 0]) ∧ Mov g w w2 ∧ Went w2 g b c pre (s :: r) m (t :: r3) ∧ TrS w2 (fun k => w.heap.size ≤ k ∧ k < w2.heap.size) A k f) := hid (HL1.out.mono fun e w2 ⟨h1, h2, A, k, c', h3, h4⟩ => ⟨A, k, c', h3, M1.out.trans h1, h2.more, h4.mono fun _ h _ => ⟨Nat.le_trans M1.out.size h.1, h.2⟩⟩)
        clear HL1 M1
        go_upto_region 7 with (first
          | (go_at_call 91; refine HL2.out.mono ?_; rintro e w2 ⟨A, k, c', rfl, m2, h2, h3⟩; have M2 := hid m2; have hw := h2; have T2 := hid h3; clear m2 h2 h3))
        obtain ⟨p, hp, hrd⟩ := hw
        have hw : Went w2 g b c pre (s :: r) m (t :: r3) := ⟨p, hp, hrd⟩
        have HW := hid hw
        have HN := hid (now_is hrd hv)
        have HX := hid (fun w' h => wrong_any (hrd.below (w' := w') h))
        have ha := as_ws (.string (strB t.s))
        clear hrd hw
        go_wp2_with (first
          | (go_at_call 154; refine (HX.out _ B3.out).mono ?_; rintro e w4 ⟨rfl, b4⟩; have B4 := hid (B3.out.trans (b4.mono B3.out.size)); clear b4)
          | (go_at_call 92; refine HN.out.mono ?_; rintro e w3 ⟨rfl, b3⟩; have B3 := hid b3; clear b3))
        go_ret2
        exact ⟨M2.out.then B4.out HG.out, ⟨m, HW.out.below B4.out⟩, ⟨by decide, by decide⟩, rfl⟩
      · have e1 : (if t.kind = 3 ∧ t.s = [125] then Res.ok f m r3 else .bad 4 (t :: r3)) = .bad 4 (t :: r3) := if_neg (by omega)
        simp only [e1]
        show Calls _ _ _ w (SlPost (.bad 4 (t :: r3)) w g b c pre (s :: r))
        go_enter Tryz.func155, Tryz.ntmps155
        go_upto_region 4 with fail
        obtain ⟨R1, M1⟩ := HK.out (q + 1) rfl
        have HL1 := hid (HL.out _ R1)
        have M1 := hid M1
        clear HL HK R1 c1 f1
        generalize w.setCell ⟨g, 1, none⟩ (.int .i64 (q + 1)) = w1 at *
        have HL2 : Hid (Calls Tryz.prog 91 #[.pointer (some ⟨g, 0, none⟩), .int .i64 (d : Nat)] w1 fun e w2 => ∃ A k c', e = .returned (.tuple #[.slice A k c', .int .i64 0]) ∧ Mov g w w2 ∧ Went w2 g b c pre (s :: r) m (t :: r3) ∧ TrS w2 (fun k => w.heap.size ≤ k ∧ k < w2.heap.size) A k f) := hid (HL1.out.mono fun e w2 ⟨h1, h2, A, k, c', h3, h4⟩ => ⟨A, k, c', h3, M1.out.trans h1, h2.more, h4.mono fun _ h _ => ⟨Nat.le_trans M1.out.size h.1, h.2⟩⟩)
        clear HL1 M1
        go_upto_region 7 with (first
          | (go_at_call 91; refine HL2.out.mono ?_; rintro e w2 ⟨A, k, c', rfl, m2, h2, h3⟩; have M2 := hid m2; have hw := h2; have T2 := hid h3; clear m2 h2 h3))
        obtain ⟨p, hp, hrd⟩ := hw
        have hw : Went w2 g b c pre (s :: r) m (t :: r3) := ⟨p, hp, hrd⟩
        have HW := hid hw
        have HN := hid (now_is hrd hv)
        have HX := hid (fun w' h => wrong_any (hrd.below (w' := w') h))
        have ha := as_ns (.agg #[.int .i64 t.n, .bool t.time])
        clear hrd hw
        go_wp2_with (first
          | (go_at_call 154; refine (HX.out _ B3.out).mono ?_; rintro e w4 ⟨rfl, b4⟩; have B4 := hid (B3.out.trans (b4.mono B3.out.size)); clear b4)
          | (go_at_call 92; refine HN.out.mono ?_; rintro e w3 ⟨rfl, b3⟩; have B3 := hid b3; clear b3))
        go_ret2
        exact ⟨M2.out.then B4.out HG.out, ⟨m, HW.out.below B4.out⟩, ⟨by decide, by decide⟩, rfl⟩
      · by_cases hs : t.s = [125]
        · have e1 : (if t.kind = 3 ∧ t.s = [125] then Res.ok f m r3 else .bad 4 (t :: r3)) = (if t.kind = 3 then Res.ok f m r3 else .bad 4 (t :: r3)) := by simp only [hs, and_true]
          by_cases hk3 : t.kind = 3
          · rw [if_pos hk3] at e1
            simp only [e1]
            show Calls _ _ _ w (SlPost (.ok f m r3) w g b c pre (s :: r))
            go_enter Tryz.func155, Tryz.ntmps155
            go_upto_region 4 with fail
            obtain ⟨R1, M1⟩ := HK.out (q + 1) rfl
            have HL1 := hid (HL.out _ R1)
            have M1 := hid M1
            clear HL HK R1 c1 f1
            generalize w.setCell ⟨g, 1, none⟩ (.int .i64 (q + 1)) = w1 at *
            have HL2 : Hid (Calls Tryz.prog 91 #[.pointer (some ⟨g, 0, none⟩), .int .i64 (d : Nat)] w1 fun e w2 => ∃ A k c', e = .returned (.tuple #[.slice A k c', .int .i64 0]) ∧ Mov g w w2 ∧ Went w2 g b c pre (s :: r) m (t :: r3) ∧ TrS w2 (fun k => w.heap.size ≤ k ∧ k < w2.heap.size) A k f) := hid (HL1.out.mono fun e w2 ⟨h1, h2, A, k, c', h3, h4⟩ => ⟨A, k, c', h3, M1.out.trans h1, h2.more, h4.mono fun _ h _ => ⟨Nat.le_trans M1.out.size h.1, h.2⟩⟩)
            clear HL1 M1
            go_upto_region 7 with (first
              | (go_at_call 91; refine HL2.out.mono ?_; rintro e w2 ⟨A, k, c', rfl, m2, h2, h3⟩; have M2 := hid m2; have hw := h2; have T2 := hid h3; clear m2 h2 h3))
            obtain ⟨p, hp, hrd⟩ := hw
            have hw : Went w2 g b c pre (s :: r) m (t :: r3) := ⟨p, hp, hrd⟩
            have HN := hid (now_is hrd hv)
            have ha := as_ss (.string (strB t.s))
            have hsx := sg_eq hs
            clear hs e1
            have HB := hid (show ∀ w3, Below w2.heap.size w2 w3 → Rd w3 g b c (pre ++ p) (t :: r3) m from fun w3 h => hrd.below h)
            clear hrd hw
            go_upto_region 10 with (first
              | (go_at_call 92; refine HN.out.mono ?_; rintro e w3 ⟨rfl, b3⟩; have B3 := hid b3; clear b3))
            have R3 := HB.out _ B3.out
            have c1 := R3.c1
            have f1 := R3.free (j := 1) (by omega)
            have hkl : ((pre ++ p).length : Int) ≤ 1000000 := by have := R3.le; omega
            have HK := hid (show ∀ z : Int, z = ((pre ++ p).length : Int) + 1 → _ from fun z hz => R3.at1 (z := z) hz)
            clear R3 HB
            obtain ⟨q2, hq⟩ : ∃ q, (pre ++ p).length = q := ⟨_, rfl⟩
            rw [hq] at c1 hkl
            have HQ := hid hq
            clear hq
            go_wp2_with fail
            have R7 := HK.out ((q2 : Int) + 1) (by rw [HQ.out])
            go_ret2
            exact ⟨(M2.out.then B3.out HG.out).trans R7.2, ⟨p ++ [t], by rw [hp]; simp, by rw [← List.append_assoc]; exact R7.1⟩, A, k, c', rfl, ((T2.out.keep fun b hb hs => B3.out.block b hs).mov (R7.2) (fun b hb => Nat.lt_of_lt_of_le HGL.out hb.1)).mono fun b hb h => ⟨hb.1, h⟩⟩
          · exfalso
            obtain ⟨q, hq⟩ := HS.out
            rcases HKD.out t (by rw [hq]; simp) with h3 | h3 | h3
            · exact h1 h3
            · exact h2 h3
            · exact hk3 h3

        · have e1 : (if t.kind = 3 ∧ t.s = [125] then Res.ok f m r3 else .bad 4 (t :: r3)) = .bad 4 (t :: r3) := if_neg (fun h => hs h.2)
          simp only [e1]
          show Calls _ _ _ w (SlPost (.bad 4 (t :: r3)) w g b c pre (s :: r))
          go_enter Tryz.func155, Tryz.ntmps155
          go_upto_region 4 with fail
          obtain ⟨R1, M1⟩ := HK.out (q + 1) rfl
          have HL1 := hid (HL.out _ R1)
          have M1 := hid M1
          clear HL HK R1 c1 f1
          generalize w.setCell ⟨g, 1, none⟩ (.int .i64 (q + 1)) = w1 at *
          have HL2 : Hid (Calls Tryz.prog 91 #[.pointer (some ⟨g, 0, none⟩), .int .i64 (d : Nat)] w1 fun e w2 => ∃ A k c', e = .returned (.tuple #[.slice A k c', .int .i64 0]) ∧ Mov g w w2 ∧ Went w2 g b c pre (s :: r) m (t :: r3) ∧ TrS w2 (fun k => w.heap.size ≤ k ∧ k < w2.heap.size) A k f) := hid (HL1.out.mono fun e w2 ⟨h1, h2, A, k, c', h3, h4⟩ => ⟨A, k, c', h3, M1.out.trans h1, h2.more, h4.mono fun _ h _ => ⟨Nat.le_trans M1.out.size h.1, h.2⟩⟩)
          clear HL1 M1
          go_upto_region 7 with (first
            | (go_at_call 91; refine HL2.out.mono ?_; rintro e w2 ⟨A, k, c', rfl, m2, h2, h3⟩; have M2 := hid m2; have hw := h2; have T2 := hid h3; clear m2 h2 h3))
          obtain ⟨p, hp, hrd⟩ := hw
          have hw : Went w2 g b c pre (s :: r) m (t :: r3) := ⟨p, hp, hrd⟩
          have HW := hid hw
          have HN := hid (now_is hrd hv)
          have HX := hid (fun w' h => wrong_any (hrd.below (w' := w') h))
          have ha := as_ss (.string (strB t.s))
          have hsx := sg_ne hs
          clear hrd hw
          go_wp2_with (first
            | (go_at_call 154; refine (HX.out _ B3.out).mono ?_; rintro e w4 ⟨rfl, b4⟩; have B4 := hid (B3.out.trans (b4.mono B3.out.size)); clear b4)
            | (go_at_call 92; refine HN.out.mono ?_; rintro e w3 ⟨rfl, b3⟩; have B3 := hid b3; clear b3))
          go_ret2
          exact ⟨M2.out.then B4.out HG.out, ⟨m, HW.out.below B4.out⟩, ⟨by decide, by decide⟩, rfl⟩
end Go.Proofs.YtpkoboohnbkpoaaGreatDoor

/-! PR -/
namespace Go.Proofs.YtpkoboohnbkpoaaGreatDoor
open Go Go.RowKit Go.Joins

theorem Sh.Var.mov {P : Program} {α : Type} {σ : Sh P α} {w w' : World} {k g : Nat} {x : α} (h : σ.Var w k x) (hm : Mov g w w') (hg : g < k) : σ.Var w' k x := by
  have e := hm.up k hg h.lt
  exact ⟨fun j v hv => (World.cell?_of_block (a := ⟨k, 0 + j, none⟩) e).trans (h.1 j v hv), fun j hj => ⟨by rw [World.cell?_of_block (a := ⟨k, 0 + j, none⟩) e]; exact (h.2 j hj).1, by rw [World.frozen?_of_block (a := ⟨k, 0 + j, none⟩) e]; exact (h.2 j hj).2⟩⟩
/-- One cell of a variable set. -/
theorem Sh.Var.set1 {P : Program} {α : Type} {σ : Sh P α} {w : World} {k j : Nat} {x x' : α} {v : Value} (h : σ.Var w k x) (hj : j < σ.N) (he : ∀ i u, (σ.enc x')[i]? = some u → if i = j then u = v else (σ.enc x)[i]? = some u) :
    σ.Var (w.setCell ⟨k, j, none⟩ v) k x' ∧ Below k w (w.setCell ⟨k, j, none⟩ v) ∧ Oth k w (w.setCell ⟨k, j, none⟩ v) := by
  have hs := setCells_oth k [v] j w
  refine ⟨⟨fun i u hu => ?_, World.there_setCells h.2 k j [v]⟩, hs.1, hs.2⟩
  have h1 := he i u hu
  by_cases hij : i = j
  · subst hij
    rw [if_pos rfl] at h1
    subst h1
    have := World.rangeAt_setCells_same w k i [u] (fun q hq => by
      obtain rfl : q = 0 := by simp at hq; exact hq
      have := h.2 i hj
      rwa [Nat.zero_add] at this) 0 u rfl
    rwa [Nat.zero_add]
  · rw [if_neg hij] at h1
    have h0 : w.rangeAt k i [u] := fun q y hq => by
      obtain rfl : q = 0 := by have := (List.getElem?_eq_some_iff.1 hq).1; simp at this; exact this
      have h2 := h.1 i u h1
      rw [Nat.zero_add] at h2
      simp at hq
      rw [← hq]
      exact h2
    have := World.rangeAt_setCells_apart h0 k j [v] (by simp only [List.length_singleton]; omega) 0 u rfl
    rwa [Nat.zero_add]
theorem results_s1 {w : World} {g : Nat} {fn : Func} {p r : Tmp} (h : fn.results = #[.cell p 36, .tmp r]) (tmps : Array Value) (hp : tmps.getD p undef = .pointer (some ⟨g, 0, none⟩)) {x : Sm} (hx : smS.Var w g x) :
    (results fn tmps).run Tryz.prog w = .ok (.tuple #[smV x, tmps.getD r undef]) w := by
  have : (loadVar 36 ⟨g, 0, none⟩).run Tryz.prog w = .ok (smV x) w := Sh.ldv smS hx.1
  have hp' : tmps[p]?.getD undef = .pointer (some ⟨g, 0, none⟩) := by simpa using hp
  simp only [results, h]
  simp [Result.andThen, hp', this, asAddr]
def stmX (L : Nat → Nat → List Tk → Res) (deep many : Nat) (t : Tk) (rest : List Tk) : Res := if many = 2000 then .bad 7 (t :: rest) else stmF L t.s deep (many + 1) rest
theorem rest_head {ts : List Tk} {t : Tk} {r : List Tk} (h : restF ts = t :: r) : ¬ t.kind = 2 := by
  have := List.head?_dropWhile_not isN ts
  unfold restF at h
  rw [h] at this
  simpa [isN] using this

theorem numbers_ok {w : World} {g b c many : Nat} {pre rest r : List Tk} (h : Rd w g b c pre rest many) (hf : fewN rest = true) (hr : restF rest = r) : Calls Tryz.prog 153 #[.pointer (some ⟨g, 0, none⟩)] w fun e w' =>
    Mov g w w' ∧ Rd w' g b c (pre ++ rest.takeWhile isN) r many ∧ ∃ A n c', n ≤ 8 ∧ e = .returned (.tuple #[.slice A n c', .int .i64 0]) ∧ RwP nmS w' (fun k => w.heap.size ≤ k ∧ k < w'.heap.size) A n (numsF rest) := by
  subst hr
  refine (numbers_any h).mono ?_
  rintro e w' ⟨h1, ⟨_, h2, h3⟩ | ⟨h2, _⟩⟩
  · exact ⟨h1, h2, h3⟩
  · rw [hf] at h2; cases h2

set_option maxRecDepth 100000 in
theorem stm_full {n : Nat} {d : Nat} {w : World} {g b c many : Nat} {pre rest : List Tk} {t : Tk} (h : Rd w g b c pre (t :: rest) many) (hm : many = 2000) :
    Calls Tryz.prog 127 #[.pointer (some ⟨g, 0, none⟩), .string (strB t.s), .int .i64 (d : Nat)] w (SmPost (stmX (lstF n) d many t rest) w g b c pre (t :: rest)) := by
  have HG := hid h.lt
  have HR := hid h
  unfold stmX
  rw [if_pos hm]
  have c2 := h.c2
  rw [hm] at c2
  clear h hm
  go_enter Tryz.func127, Tryz.ntmps127
  go_wp2_with (first
    | (refine Sh.wp_sv smS (x := smZ) rfl (.tmp 6) (.tmp 16) rfl rfl (by rfl) q1 ?_; intro w3 q3 b3 o3 s3; have B3 := hid (B1.out.trans (b3.mono (Nat.le_refl _))); clear b3 o3 s3)
    | (refine Sh.wp_al smS rfl rfl ?_; intro w1 q1 b1 s1; have c2 : w1.cell? ⟨g, 2, none⟩ = some (.int .i64 (2000 : Nat)) := (b1.cell (p := ⟨g, 2, none⟩) HG.out).trans c2; have B1 := hid b1; clear b1 s1))
  exact bodyPost_ret (results_s1 Tryz.results127 _ rfl q3) rfl ⟨.of B3.out (Nat.le_of_lt HG.out), ⟨many, .here (HR.out.below B3.out)⟩, ⟨by decide, by decide⟩, rfl⟩

set_option maxHeartbeats 1000000 in
set_option maxRecDepth 100000 in
theorem stm_nums {d : Nat} {w : World} {g b c many : Nat} {pre rest : List Tk} {t : Tk} (h : Rd w g b c pre (t :: rest) many) (hm : ¬ many = 2000) (hf : fewN rest = false) :
    Calls Tryz.prog 127 #[.pointer (some ⟨g, 0, none⟩), .string (strB t.s), .int .i64 (d : Nat)] w (SmPost (.bad 7 (rest.drop 8)) w g b c pre (t :: rest)) := by
  have HG := hid h.lt
  have HGB := hid h.ltb
  have hm2 : many ≤ 1999 := by have := h.le2; omega
  have hm3 : many < 2000 := by omega
  have hmf : ((many : Int) == 2000) = false := beq_eq_false_iff_ne.2 (by omega)
  have HR := hid h
  clear h
  go_enter Tryz.func127, Tryz.ntmps127
  go_upto_region 4 with (first
    | (refine Sh.wp_al smS rfl rfl ?_; intro w1 v1 b1 s1; have B1 := hid b1; have V1 := hid v1; have R1 := HR.out.below b1; have c2 := R1.c2; have f2 := R1.free (j := 2) (by omega); have HK := hid (fun (z : Int) (hz : z = (many : Int) + 1) => R1.many1 hm3 (z := z) hz); clear R1 b1 v1 s1))
  obtain ⟨R2, M2⟩ := HK.out ((many : Int) + 1) rfl
  have M2 := hid ((Mov.of B1.out (Nat.le_of_lt HG.out)).trans M2)
  have V2 := hid (V1.out.mov (HK.out ((many : Int) + 1) rfl).2 HG.out)
  clear HK c2 f2 V1 B1
  generalize w1.setCell ⟨g, 2, none⟩ (.int .i64 ((many : Int) + 1)) = w2 at *
  have c1 := R2.c1
  have f1 := R2.free (j := 1) (by omega)
  have hkl : (pre.length : Int) ≤ 1000000 := by have := R2.le; omega
  have hk0 : 0 ≤ (pre.length : Int) := by omega
  have HK := hid (show ∀ z : Int, z = (pre.length : Int) + 1 → _ from fun z hz => R2.at1 (z := z) hz)
  clear R2
  generalize (pre.length : Int) = q at *
  go_upto_region 5 with fail
  obtain ⟨R3, M3⟩ := HK.out (q + 1) rfl
  have V3 := hid (V2.out.mov M3 HG.out)
  have M3 := hid (M2.out.trans M3)
  have HN := hid (numbers_any R3)
  clear HK c1 f1 V2 M2 R3
  generalize w2.setCell ⟨g, 1, none⟩ (.int .i64 (q + 1)) = w3 at *
  go_wp2_with (first
    | (refine Sh.wp_sv smS (x := smZ) rfl (.tmp 6) (.tmp 38) rfl rfl (by rfl) q4 ?_; intro w5 q5 b5 o5 s5; have B5 := hid b5; have O5 := hid o5; clear b5 o5 s5)
    | (go_at_call 153; refine HN.out.mono ?_; rintro e w4 ⟨m4, ⟨hf2, _⟩ | ⟨_, r4, rfl⟩⟩; (exfalso; rw [hf] at hf2; cases hf2); have M4 := hid (M3.out.trans m4); have R4 := hid r4; have q4 := V3.out.mov m4 HG.out; clear m4 r4))
  exact bodyPost_ret (results_s1 Tryz.results127 _ rfl q5) rfl ⟨M4.out.since (B5.out) (Nat.le_of_lt HG.out), ⟨many + 1, Went.more (q := [t]) ⟨rest.take 8, (List.take_append_drop 8 rest).symm, R4.out.over B5.out HG.out (Nat.lt_of_lt_of_le HGB.out (Nat.le_refl _))⟩⟩, ⟨by decide, by decide⟩, rfl⟩

set_option maxHeartbeats 1000000 in
set_option maxRecDepth 100000 in
theorem stm_end {d : Nat} {w : World} {g b c many : Nat} {pre rest : List Tk} {t : Tk} (h : Rd w g b c pre (t :: rest) many) (hm : ¬ many = 2000) (hf : fewN rest = true) (hr : restF rest = []) :
    Calls Tryz.prog 127 #[.pointer (some ⟨g, 0, none⟩), .string (strB t.s), .int .i64 (d : Nat)] w (SmPost (.bad 3 ([])) w g b c pre (t :: rest)) := by
  have HG := hid h.lt
  have hm2 : many ≤ 1999 := by have := h.le2; omega
  have hm3 : many < 2000 := by omega
  have hmf : ((many : Int) == 2000) = false := beq_eq_false_iff_ne.2 (by omega)
  have HGB := hid h.ltb
  have hv := (show nowV [] = .iface 142 (.agg #[]) from rfl)
  have a1 := as_ew (.agg #[])
  have a2 := as_ee (.agg #[])
  have HR := hid h
  clear h
  go_enter Tryz.func127, Tryz.ntmps127
  go_upto_region 4 with (first
    | (refine Sh.wp_al smS rfl rfl ?_; intro w1 v1 b1 s1; have B1 := hid b1; have V1 := hid v1; have R1 := HR.out.below b1; have c2 := R1.c2; have f2 := R1.free (j := 2) (by omega); have HK := hid (fun (z : Int) (hz : z = (many : Int) + 1) => R1.many1 hm3 (z := z) hz); clear R1 b1 v1 s1))
  obtain ⟨R2, M2⟩ := HK.out ((many : Int) + 1) rfl
  have M2 := hid ((Mov.of B1.out (Nat.le_of_lt HG.out)).trans M2)
  have V2 := hid (V1.out.mov (HK.out ((many : Int) + 1) rfl).2 HG.out)
  clear HK c2 f2 V1 B1
  generalize w1.setCell ⟨g, 2, none⟩ (.int .i64 ((many : Int) + 1)) = w2 at *
  have c1 := R2.c1
  have f1 := R2.free (j := 1) (by omega)
  have hkl : (pre.length : Int) ≤ 1000000 := by have := R2.le; omega
  have hk0 : 0 ≤ (pre.length : Int) := by omega
  have HK := hid (show ∀ z : Int, z = (pre.length : Int) + 1 → _ from fun z hz => R2.at1 (z := z) hz)
  clear R2
  generalize (pre.length : Int) = q at *
  go_upto_region 5 with fail
  obtain ⟨R3, M3⟩ := HK.out (q + 1) rfl
  have V3 := hid (V2.out.mov M3 HG.out)
  have M3 := hid (M2.out.trans M3)
  have HN := hid (numbers_ok R3 hf hr)
  clear HK c1 f1 V2 M2 R3
  generalize w2.setCell ⟨g, 1, none⟩ (.int .i64 (q + 1)) = w3 at *
  go_wp2_with (first
    | (refine Sh.wp_sv smS (x := smZ) rfl (.tmp 6) (.tmp 49) rfl rfl (by rfl) q6 ?_; intro w7 q7 b7 o7 s7; have B7 := hid b7; clear b7 o7 s7)
    | (go_at_call 154; refine N6.out.mono ?_; rintro e w6 ⟨rfl, b6⟩; have B6 := hid (B5.out.trans (b6.mono B5.out.size)); have q6 := q5.keep b6; clear b6)
    | (go_at_call 92; refine N5.out.mono ?_; rintro e w5 ⟨rfl, b5⟩; have B5 := hid b5; have q5 := q4.keep b5; have N6 := hid (wrong_any (R4.out.below b5)); clear b5)
    | (go_at_call 153; refine HN.out.mono ?_; rintro e w4 ⟨m4, r4, A, k, c4, hk8, rfl, hns⟩; have M4 := hid (M3.out.trans m4); have R4 := hid r4; have q4 := V3.out.mov m4 HG.out; have NS4 := hid (hns.mono (P' := fun j => w.heap.size ≤ j ∧ j < w4.heap.size) fun _ h _ => ⟨Nat.le_trans M3.out.size h.1, h.2⟩); have N5 := hid (now_is R4.out hv); have K8 := hid hk8; clear m4 r4 hns hk8))
  have B67 := hid (B6.out.mono M4.out.size)
  exact bodyPost_ret (results_s1 Tryz.results127 _ rfl q7) rfl ⟨(M4.out.then B6.out (Nat.le_of_lt HG.out)).since B7.out (Nat.le_of_lt HG.out), ⟨many + 1, Went.more (q := [t]) ⟨rest.takeWhile isN, by rw [← hr]; exact (List.takeWhile_append_dropWhile).symm, (R4.out.below B6.out).over B7.out HG.out HGB.out⟩⟩, ⟨by decide, by decide⟩, rfl⟩

set_option maxHeartbeats 1000000 in
set_option maxRecDepth 100000 in
theorem stm_word {d : Nat} {w : World} {g b c many : Nat} {pre rest : List Tk} {t u : Tk} {r2 : List Tk} (h : Rd w g b c pre (t :: rest) many) (hm : ¬ many = 2000) (hf : fewN rest = true) (hr : restF rest = u :: r2) (hu : u.kind = 1) :
    Calls Tryz.prog 127 #[.pointer (some ⟨g, 0, none⟩), .string (strB t.s), .int .i64 (d : Nat)] w (SmPost (.bad 4 (u :: r2)) w g b c pre (t :: rest)) := by
  have HG := hid h.lt
  have hm2 : many ≤ 1999 := by have := h.le2; omega
  have hm3 : many < 2000 := by omega
  have hmf : ((many : Int) == 2000) = false := beq_eq_false_iff_ne.2 (by omega)
  have HGB := hid h.ltb
  have hv := now_w u r2 hu
  have a1 := as_ww (.string (strB u.s))
  have a2 := as_we (.string (strB u.s))
  have HR := hid h
  clear h
  go_enter Tryz.func127, Tryz.ntmps127
  go_upto_region 4 with (first
    | (refine Sh.wp_al smS rfl rfl ?_; intro w1 v1 b1 s1; have B1 := hid b1; have V1 := hid v1; have R1 := HR.out.below b1; have c2 := R1.c2; have f2 := R1.free (j := 2) (by omega); have HK := hid (fun (z : Int) (hz : z = (many : Int) + 1) => R1.many1 hm3 (z := z) hz); clear R1 b1 v1 s1))
  obtain ⟨R2, M2⟩ := HK.out ((many : Int) + 1) rfl
  have M2 := hid ((Mov.of B1.out (Nat.le_of_lt HG.out)).trans M2)
  have V2 := hid (V1.out.mov (HK.out ((many : Int) + 1) rfl).2 HG.out)
  clear HK c2 f2 V1 B1
  generalize w1.setCell ⟨g, 2, none⟩ (.int .i64 ((many : Int) + 1)) = w2 at *
  have c1 := R2.c1
  have f1 := R2.free (j := 1) (by omega)
  have hkl : (pre.length : Int) ≤ 1000000 := by have := R2.le; omega
  have hk0 : 0 ≤ (pre.length : Int) := by omega
  have HK := hid (show ∀ z : Int, z = (pre.length : Int) + 1 → _ from fun z hz => R2.at1 (z := z) hz)
  clear R2
  generalize (pre.length : Int) = q at *
  go_upto_region 5 with fail
  obtain ⟨R3, M3⟩ := HK.out (q + 1) rfl
  have V3 := hid (V2.out.mov M3 HG.out)
  have M3 := hid (M2.out.trans M3)
  have HN := hid (numbers_ok R3 hf hr)
  clear HK c1 f1 V2 M2 R3
  generalize w2.setCell ⟨g, 1, none⟩ (.int .i64 (q + 1)) = w3 at *
  go_wp2_with (first
    | (refine Sh.wp_sv smS (x := smZ) rfl (.tmp 6) (.tmp 49) rfl rfl (by rfl) q6 ?_; intro w7 q7 b7 o7 s7; have B7 := hid b7; clear b7 o7 s7)
    | (go_at_call 154; refine N6.out.mono ?_; rintro e w6 ⟨rfl, b6⟩; have B6 := hid (B5.out.trans (b6.mono B5.out.size)); have q6 := q5.keep b6; clear b6)
    | (go_at_call 92; refine N5.out.mono ?_; rintro e w5 ⟨rfl, b5⟩; have B5 := hid b5; have q5 := q4.keep b5; have N6 := hid (wrong_any (R4.out.below b5)); clear b5)
    | (go_at_call 153; refine HN.out.mono ?_; rintro e w4 ⟨m4, r4, A, k, c4, hk8, rfl, hns⟩; have M4 := hid (M3.out.trans m4); have R4 := hid r4; have q4 := V3.out.mov m4 HG.out; have NS4 := hid (hns.mono (P' := fun j => w.heap.size ≤ j ∧ j < w4.heap.size) fun _ h _ => ⟨Nat.le_trans M3.out.size h.1, h.2⟩); have N5 := hid (now_is R4.out hv); have K8 := hid hk8; clear m4 r4 hns hk8))
  have B67 := hid (B6.out.mono M4.out.size)
  exact bodyPost_ret (results_s1 Tryz.results127 _ rfl q7) rfl ⟨(M4.out.then B6.out (Nat.le_of_lt HG.out)).since B7.out (Nat.le_of_lt HG.out), ⟨many + 1, Went.more (q := [t]) ⟨rest.takeWhile isN, by rw [← hr]; exact (List.takeWhile_append_dropWhile).symm, (R4.out.below B6.out).over B7.out HG.out HGB.out⟩⟩, ⟨by decide, by decide⟩, rfl⟩
end Go.Proofs.YtpkoboohnbkpoaaGreatDoor

/-! PS -/
namespace Go.Proofs.YtpkoboohnbkpoaaGreatDoor
open Go Go.RowKit Go.Joins

set_option maxHeartbeats 1000000 in
set_option maxRecDepth 100000 in
theorem stm_other {d : Nat} {w : World} {g b c many : Nat} {pre rest : List Tk} {t : Tk} (h : Rd w g b c pre (t :: rest) many) (hm : ¬ many = 2000) {u : Tk} {r2 : List Tk} (hf : fewN rest = true) (hr : restF rest = u :: r2) (hu1 : ¬ u.kind = 1) (hu : ¬ u.s = [59]) (hu2 : ¬ u.s = [123]) :
    Calls Tryz.prog 127 #[.pointer (some ⟨g, 0, none⟩), .string (strB t.s), .int .i64 (d : Nat)] w (SmPost (.bad 4 (u :: r2)) w g b c pre (t :: rest)) := by
  have HG := hid h.lt
  have hm2 : many ≤ 1999 := by have := h.le2; omega
  have hm3 : many < 2000 := by omega
  have hmf : ((many : Int) == 2000) = false := beq_eq_false_iff_ne.2 (by omega)
  have HGB := hid h.ltb
  have hv := now_s u r2 hu1 (rest_head hr)
  have a1 := as_sw (.string (strB u.s))
  have a2 := as_se (.string (strB u.s))
  have a3 := as_s1 (.string (strB u.s))
  have e1 := sg_ne hu
  have e2 := sg_ne hu2
  have HR := hid h
  clear h
  go_enter Tryz.func127, Tryz.ntmps127
  go_upto_region 4 with (first
    | (refine Sh.wp_al smS rfl rfl ?_; intro w1 v1 b1 s1; have B1 := hid b1; have V1 := hid v1; have R1 := HR.out.below b1; have c2 := R1.c2; have f2 := R1.free (j := 2) (by omega); have HK := hid (fun (z : Int) (hz : z = (many : Int) + 1) => R1.many1 hm3 (z := z) hz); clear R1 b1 v1 s1))
  obtain ⟨R2, M2⟩ := HK.out ((many : Int) + 1) rfl
  have M2 := hid ((Mov.of B1.out (Nat.le_of_lt HG.out)).trans M2)
  have V2 := hid (V1.out.mov (HK.out ((many : Int) + 1) rfl).2 HG.out)
  clear HK c2 f2 V1 B1
  generalize w1.setCell ⟨g, 2, none⟩ (.int .i64 ((many : Int) + 1)) = w2 at *
  have c1 := R2.c1
  have f1 := R2.free (j := 1) (by omega)
  have hkl : (pre.length : Int) ≤ 1000000 := by have := R2.le; omega
  have hk0 : 0 ≤ (pre.length : Int) := by omega
  have HK := hid (show ∀ z : Int, z = (pre.length : Int) + 1 → _ from fun z hz => R2.at1 (z := z) hz)
  clear R2
  generalize (pre.length : Int) = q at *
  go_upto_region 5 with fail
  have H36 := hid V2.out.lt
  obtain ⟨R3, M3⟩ := HK.out (q + 1) rfl
  have H36 := hid (Nat.lt_of_lt_of_le H36.out M3.size)
  have V3 := hid (V2.out.mov M3 HG.out)
  have M3 := hid (M2.out.trans M3)
  have HN := hid (numbers_ok R3 hf hr)
  clear HK c1 f1 V2 M2 R3
  generalize w2.setCell ⟨g, 1, none⟩ (.int .i64 (q + 1)) = w3 at *
  go_wp2_with (first
    | (refine Sh.wp_sv smS (x := smZ) rfl (.tmp 6) (.tmp 82) rfl rfl (by rfl) q69 ?_; intro w10 q10 b10 o10 s10; have B10 := hid b10; clear b10 o10 s10)
    | (go_at_call 154; refine (wrong_any R8.out).mono ?_; rintro e w9 ⟨rfl, b9⟩; have B9 := hid (B8.out.trans (b9.mono B8.out.size)); have q69 := q68.keep b9; clear b9)
    | (go_at_call 92; refine N7.out.mono ?_; rintro e w8 ⟨rfl, b8⟩; have B8 := hid (B7.out.trans (b8.mono B7.out.size)); have q8 := Q7.out.keep b8; have R8 := hid (R4.out.below (B7.out.trans (b8.mono B7.out.size))); have q68 := Q67.out.keep b8; clear b8)
    | (refine Sh.wp_sv smS (x := ⟨t.s, A, k, c4, false, none, 0, 0⟩) rfl (.tmp 10) (.tmp 54) rfl rfl (by rfl) q6 ?_; intro w7 q7 b7 o7 s7; have B7 := hid (B6.out.trans (b7.mono B5.out.size)); have Q7 := hid q7; have Q67 := hid ((q46.out.keep B6.out).other o7 (by have := H6.out; have := B5.out.size; omega)) ; have N7 := hid (now_is (R4.out.below (B6.out.trans (b7.mono B5.out.size))) hv); clear b7 o7 s7 q6 q7)
    | (refine Sh.wp_al smS rfl rfl ?_; intro w6 q6 b6 s6; have B6 := hid (B5.out.trans (b6.mono B5.out.size)); clear b6 s6)
    | (go_at_call 92; refine N5.out.mono ?_; rintro e w5 ⟨rfl, b5⟩; have B5 := hid b5; have H6 := hid q4.lt; have q46 := hid q4; clear b5 q4)
    | (go_at_call 153; refine HN.out.mono ?_; rintro e w4 ⟨m4, r4, A, k, c4, hk8, rfl, hns⟩; have M4 := hid (M3.out.trans m4); have R4 := hid r4; have q4 := V3.out.mov m4 HG.out; have NS4 := hid (hns.mono (P' := fun j => w3.heap.size ≤ j ∧ j < w4.heap.size) fun _ h _ => h); have N5 := hid (now_is R4.out hv); have K8 := hid hk8; clear m4 r4 hns hk8))
  exact bodyPost_ret (results_s1 Tryz.results127 _ rfl q10) rfl ⟨(M4.out.then B9.out (Nat.le_of_lt HG.out)).since B10.out (Nat.le_of_lt HG.out), ⟨many + 1, Went.more (q := [t]) ⟨rest.takeWhile isN, by rw [← hr]; exact (List.takeWhile_append_dropWhile).symm, (R4.out.below B9.out).over B10.out HG.out HGB.out⟩⟩, ⟨by decide, by decide⟩, rfl⟩

set_option maxHeartbeats 1000000 in
set_option maxRecDepth 100000 in
theorem stm_stop {d : Nat} {w : World} {g b c many : Nat} {pre rest : List Tk} {t : Tk} (h : Rd w g b c pre (t :: rest) many) (hm : ¬ many = 2000) {u : Tk} {r2 : List Tk} (hf : fewN rest = true) (hr : restF rest = u :: r2) (hu1 : ¬ u.kind = 1) (hu : u.s = [59]) :
    Calls Tryz.prog 127 #[.pointer (some ⟨g, 0, none⟩), .string (strB t.s), .int .i64 (d : Nat)] w (SmPost (.ok (.cons t.s (numsF rest) false .nil .nil) (many + 1) r2) w g b c pre (t :: rest)) := by
  have HG := hid h.lt
  have hm2 : many ≤ 1999 := by have := h.le2; omega
  have hm3 : many < 2000 := by omega
  have hmf : ((many : Int) == 2000) = false := beq_eq_false_iff_ne.2 (by omega)
  have HGB := hid h.ltb
  have hv := now_s u r2 hu1 (rest_head hr)
  have a1 := as_sw (.string (strB u.s))
  have a2 := as_se (.string (strB u.s))
  have a3 := as_s1 (.string (strB u.s))
  have e1 := sg_eq hu
  clear hu
  have HR := hid h
  clear h
  go_enter Tryz.func127, Tryz.ntmps127
  go_upto_region 4 with (first
    | (refine Sh.wp_al smS rfl rfl ?_; intro w1 v1 b1 s1; have B1 := hid b1; have V1 := hid v1; have R1 := HR.out.below b1; have c2 := R1.c2; have f2 := R1.free (j := 2) (by omega); have HK := hid (fun (z : Int) (hz : z = (many : Int) + 1) => R1.many1 hm3 (z := z) hz); clear R1 b1 v1 s1))
  obtain ⟨R2, M2⟩ := HK.out ((many : Int) + 1) rfl
  have M2 := hid ((Mov.of B1.out (Nat.le_of_lt HG.out)).trans M2)
  have V2 := hid (V1.out.mov (HK.out ((many : Int) + 1) rfl).2 HG.out)
  clear HK c2 f2 V1 B1
  generalize w1.setCell ⟨g, 2, none⟩ (.int .i64 ((many : Int) + 1)) = w2 at *
  have c1 := R2.c1
  have f1 := R2.free (j := 1) (by omega)
  have hkl : (pre.length : Int) ≤ 1000000 := by have := R2.le; omega
  have hk0 : 0 ≤ (pre.length : Int) := by omega
  have HK := hid (show ∀ z : Int, z = (pre.length : Int) + 1 → _ from fun z hz => R2.at1 (z := z) hz)
  clear R2
  generalize (pre.length : Int) = q at *
  go_upto_region 5 with fail
  have H36 := hid V2.out.lt
  obtain ⟨R3, M3⟩ := HK.out (q + 1) rfl
  have H36 := hid (Nat.lt_of_lt_of_le H36.out M3.size)
  have V3 := hid (V2.out.mov M3 HG.out)
  have M3 := hid (M2.out.trans M3)
  have HN := hid (numbers_ok R3 hf hr)
  clear HK c1 f1 V2 M2 R3
  generalize w2.setCell ⟨g, 1, none⟩ (.int .i64 (q + 1)) = w3 at *
  go_upto_region 15 with (first
    | (go_at_call 92; refine N7.out.mono ?_; rintro e w8 ⟨rfl, b8⟩; have B8 := hid (B7.out.trans (b8.mono B7.out.size)); have q8 := Q7.out.keep b8; have R8 := hid (R4.out.below (B7.out.trans (b8.mono B7.out.size))); have q68 := Q67.out.keep b8; clear b8)
    | (refine Sh.wp_sv smS (x := ⟨t.s, A, k, c4, false, none, 0, 0⟩) rfl (.tmp 10) (.tmp 54) rfl rfl (by rfl) q6 ?_; intro w7 q7 b7 o7 s7; have B7 := hid (B6.out.trans (b7.mono B5.out.size)); have Q7 := hid q7; have Q67 := hid ((q46.out.keep B6.out).other o7 (by have := H6.out; have := B5.out.size; omega)) ; have N7 := hid (now_is (R4.out.below (B6.out.trans (b7.mono B5.out.size))) hv); clear b7 o7 s7 q6 q7)
    | (refine Sh.wp_al smS rfl rfl ?_; intro w6 q6 b6 s6; have B6 := hid (B5.out.trans (b6.mono B5.out.size)); clear b6 s6)
    | (go_at_call 92; refine N5.out.mono ?_; rintro e w5 ⟨rfl, b5⟩; have B5 := hid b5; have H6 := hid q4.lt; have q46 := hid q4; clear b5 q4)
    | (go_at_call 153; refine HN.out.mono ?_; rintro e w4 ⟨m4, r4, A, k, c4, hk8, rfl, hns⟩; have M4 := hid (M3.out.trans m4); have R4 := hid r4; have q4 := V3.out.mov m4 HG.out; have NS4 := hid (hns.mono (P' := fun j => w3.heap.size ≤ j ∧ j < w4.heap.size) fun _ h _ => h); have N5 := hid (now_is R4.out hv); have K8 := hid hk8; clear m4 r4 hns hk8))
  have c1 := R8.out.c1
  have f1 := R8.out.free (j := 1) (by omega)
  have hkl : ((pre ++ [t] ++ rest.takeWhile isN).length : Int) ≤ 1000000 := by have := R8.out.le; omega
  have HK := hid (fun (z : Int) (hz : z = ((pre ++ [t] ++ rest.takeWhile isN).length : Int) + 1) => R8.out.at1 (z := z) hz)
  obtain ⟨q2, hq⟩ : ∃ q, (pre ++ [t] ++ rest.takeWhile isN).length = q := ⟨_, rfl⟩
  rw [hq] at c1 hkl
  have HQ := hid hq
  clear hq
  have Q8 := hid (And.intro q8 q68)
  clear q8 q68
  go_upto_region 19 with fail
  obtain ⟨R9, M9⟩ := HK.out ((q2 : Int) + 1) (by rw [HQ.out])
  have hgl : g < w5.heap.size := Nat.lt_of_lt_of_le (Nat.lt_of_lt_of_le HG.out M4.out.size) B5.out.size
  have v9 := Q8.out.1.mov M9 hgl
  have q69 := Q8.out.2.mov M9 HG.out
  have R9 := hid R9
  have M9 := hid M9
  clear HK c1 f1
  generalize w8.setCell ⟨g, 1, none⟩ (.int .i64 ((q2 : Int) + 1)) = w9 at *
  go_wp2_with (first
    | (refine Sh.wp_sv smS (x := ⟨t.s, A, k, c4, false, none, 0, 0⟩) rfl (.tmp 6) (.tmp 84) rfl rfl (by rfl) q69 ?_; intro w10 q10 b10 o10 s10; have B10 := hid b10; have O10 := hid o10; clear b10 o10 s10)
    | (refine Sh.wp_ld smS rfl (.tmp 10) rfl rfl v9.1 ?_))
  refine bodyPost_ret (results_s1 Tryz.results127 _ rfl q10) rfl ⟨((M4.out.then B8.out (Nat.le_of_lt HG.out)).trans M9.out).since B10.out (Nat.le_of_lt HG.out), Went.more (q := [t]) ⟨rest.takeWhile isN ++ [u], by rw [List.append_assoc]; show _ = rest.takeWhile isN ++ u :: r2; rw [← hr]; exact (List.takeWhile_append_dropWhile).symm, by rw [← List.append_assoc]; exact R9.out.over B10.out HG.out HGB.out⟩, ⟨t.s, A, k, c4, false, none, 0, 0⟩, rfl,
    ⟨⟨t.s, A, k, c4, false, none, 0, 0⟩, [], rfl, rfl, rfl, ?_, ⟨[], RwP.nil, rfl⟩, rfl⟩⟩
  have n8 := (NS4.out.keep (fun j _ hj => B8.out.block j hj)).keep (w' := w9) (fun j hj hs => M9.out.up j (Nat.lt_of_lt_of_le (Nat.lt_trans HG.out H36.out) hj.1) hs)
  have n10 := n8.keep (w' := w10) (fun j hj _ => O10.out j (by have := hj.1; have := H36.out; omega))
  exact n10.mono fun j hj hs => ⟨Nat.le_trans (Nat.le_of_lt H36.out) hj.1, hs⟩
end Go.Proofs.YtpkoboohnbkpoaaGreatDoor

/-! PT -/
namespace Go.Proofs.YtpkoboohnbkpoaaGreatDoor
open Go Go.RowKit Go.Joins

set_option maxHeartbeats 1000000 in
set_option maxRecDepth 100000 in
theorem stm_open_bad {d : Nat} {w : World} {g b c many : Nat} {pre rest : List Tk} {t : Tk} (h : Rd w g b c pre (t :: rest) many) (hm : ¬ many = 2000) {u : Tk} {r2 : List Tk} (hf : fewN rest = true) (hr : restF rest = u :: r2) (hu1 : ¬ u.kind = 1) (hu : u.s = [123]) {n er : Nat} {r3 : List Tk} (hl : ListOk n) (hd : d ≤ 6) (hr2 : r2.length ≤ n) (hx : blkX (lstF n) (d + 1) (many + 1) u r2 = .bad er r3) :
    Calls Tryz.prog 127 #[.pointer (some ⟨g, 0, none⟩), .string (strB t.s), .int .i64 (d : Nat)] w (SmPost (.bad er r3) w g b c pre (t :: rest)) := by
  have HG := hid h.lt
  have hm2 : many ≤ 1999 := by have := h.le2; omega
  have hm3 : many < 2000 := by omega
  have hmf : ((many : Int) == 2000) = false := beq_eq_false_iff_ne.2 (by omega)
  have HGB := hid h.ltb
  have hv := now_s u r2 hu1 (rest_head hr)
  have a1 := as_sw (.string (strB u.s))
  have a2 := as_se (.string (strB u.s))
  have a3 := as_s1 (.string (strB u.s))
  have e1 := sg_ne (l := u.s) (m := [59]) (by rw [hu]; decide)
  have e2 := sg_eq hu
  clear hu
  have HBK := hid (fun w9 (R : Rd w9 g b c (pre ++ [t] ++ rest.takeWhile isN) (u :: r2) (many + 1)) => block_any hl (d := d + 1) (by omega) hr2 R)
  rw [hx, show ((d + 1 : Nat) : Int) = (d : Int) + 1 by omega] at HBK
  have hd6 : (d : Int) ≤ 6 := by omega
  clear hx hl hd hr2
  have HR := hid h
  clear h
  go_enter Tryz.func127, Tryz.ntmps127
  go_upto_region 4 with (first
    | (refine Sh.wp_al smS rfl rfl ?_; intro w1 v1 b1 s1; have B1 := hid b1; have V1 := hid v1; have R1 := HR.out.below b1; have c2 := R1.c2; have f2 := R1.free (j := 2) (by omega); have HK := hid (fun (z : Int) (hz : z = (many : Int) + 1) => R1.many1 hm3 (z := z) hz); clear R1 b1 v1 s1))
  obtain ⟨R2, M2⟩ := HK.out ((many : Int) + 1) rfl
  have M2 := hid ((Mov.of B1.out (Nat.le_of_lt HG.out)).trans M2)
  have V2 := hid (V1.out.mov (HK.out ((many : Int) + 1) rfl).2 HG.out)
  clear HK c2 f2 V1 B1
  generalize w1.setCell ⟨g, 2, none⟩ (.int .i64 ((many : Int) + 1)) = w2 at *
  have c1 := R2.c1
  have f1 := R2.free (j := 1) (by omega)
  have hkl : (pre.length : Int) ≤ 1000000 := by have := R2.le; omega
  have hk0 : 0 ≤ (pre.length : Int) := by omega
  have HK := hid (show ∀ z : Int, z = (pre.length : Int) + 1 → _ from fun z hz => R2.at1 (z := z) hz)
  clear R2
  generalize (pre.length : Int) = q at *
  go_upto_region 5 with fail
  have H36 := hid V2.out.lt
  obtain ⟨R3, M3⟩ := HK.out (q + 1) rfl
  have H36 := hid (Nat.lt_of_lt_of_le H36.out M3.size)
  have V3 := hid (V2.out.mov M3 HG.out)
  have M3 := hid (M2.out.trans M3)
  have HN := hid (numbers_ok R3 hf hr)
  clear HK c1 f1 V2 M2 R3
  generalize w2.setCell ⟨g, 1, none⟩ (.int .i64 (q + 1)) = w3 at *
  go_upto_region 17 with (first
    | (go_at_call 92; refine N7.out.mono ?_; rintro e w8 ⟨rfl, b8⟩; have B8 := hid (B7.out.trans (b8.mono B7.out.size)); have q8 := Q7.out.keep b8; have R8 := hid (R4.out.below (B7.out.trans (b8.mono B7.out.size))); have q68 := Q67.out.keep b8; clear b8)
    | (refine Sh.wp_sv smS (x := ⟨t.s, A, k, c4, false, none, 0, 0⟩) rfl (.tmp 10) (.tmp 54) rfl rfl (by rfl) q6 ?_; intro w7 q7 b7 o7 s7; have B7 := hid (B6.out.trans (b7.mono B5.out.size)); have Q7 := hid q7; have Q67 := hid ((q46.out.keep B6.out).other o7 (by have := H6.out; have := B5.out.size; omega)) ; have N7 := hid (now_is (R4.out.below (B6.out.trans (b7.mono B5.out.size))) hv); clear b7 o7 s7 q6 q7)
    | (refine Sh.wp_al smS rfl rfl ?_; intro w6 q6 b6 s6; have B6 := hid (B5.out.trans (b6.mono B5.out.size)); clear b6 s6)
    | (go_at_call 92; refine N5.out.mono ?_; rintro e w5 ⟨rfl, b5⟩; have B5 := hid b5; have H6 := hid q4.lt; have q46 := hid q4; clear b5 q4)
    | (go_at_call 153; refine HN.out.mono ?_; rintro e w4 ⟨m4, r4, A, k, c4, hk8, rfl, hns⟩; have M4 := hid (M3.out.trans m4); have R4 := hid r4; have q4 := V3.out.mov m4 HG.out; have NS4 := hid (hns.mono (P' := fun j => w3.heap.size ≤ j ∧ j < w4.heap.size) fun _ h _ => h); have N5 := hid (now_is R4.out hv); have K8 := hid hk8; clear m4 r4 hns hk8))
  have hgl : g < w5.heap.size := Nat.lt_of_lt_of_le (Nat.lt_of_lt_of_le HG.out M4.out.size) B5.out.size
  have hbl : b < w5.heap.size := Nat.lt_of_lt_of_le (Nat.lt_of_lt_of_le HGB.out M4.out.size) B5.out.size
  have h45 := hid (And.intro B5.out.size (Nat.lt_of_lt_of_le H6.out B5.out.size))
  have h58 := hid q8.lt
  have c2 := q8.cell (j := 2) rfl
  have f2 := q8.free (j := 2) (by decide)
  have HS := hid (q8.set1 (j := 2) (v := .bool true) (x' := ⟨t.s, A, k, c4, true, none, 0, 0⟩) (by decide) (by
    intro i y hy
    match i, hy with
    | 0, hy => exact hy
    | 1, hy => exact hy
    | 2, hy => exact (Option.some.inj hy).symm
    | 3, hy => exact hy))
  have q68 := hid q68
  clear q8
  have hg5 := hid (And.intro hgl hbl)
  clear hgl hbl
  go_upto_region 18 with fail
  have q9 := HS.out.1
  have R9 := R8.out.over HS.out.2.1 hg5.out.1 hg5.out.2
  have q69 := q68.out.other HS.out.2.2 (by have := h45.out.2; omega)
  have B9 := hid HS.out.2.1
  clear HS c2 f2
  generalize w8.setCell ⟨w5.heap.size, 2, none⟩ (.bool true) = w9 at *
  have HBL := hid (HBK.out w9 R9)
  clear HBK R9
  go_upto_region 19 with (first
    | (go_at_call 155; refine HBL.out.mono ?_; rintro e w10 ⟨m10, h10, h11, rfl⟩; have X10 := hid h11; clear h11; have q10 := q9.mov m10 hg5.out.1; have q610 := hid (q69.mov m10 HG.out); have c3 := q10.cell (j := 3) rfl; have f3 := q10.free (j := 3) (by decide); have Q10 := hid q10; have M10 := hid m10; have W10 := hid h10; clear m10 q10 h10))
  have HS := hid (Q10.out.set1 (j := 3) (v := .slice none 0 0) (x' := ⟨t.s, A, k, c4, true, none, 0, 0⟩) (by decide) (by
    intro i y hy
    match i, hy with
    | 0, hy => exact hy
    | 1, hy => exact hy
    | 2, hy => exact hy
    | 3, hy => exact (Option.some.inj hy).symm))
  clear c3 f3
  have hne : ((er : Int) == 0) = false := beq_eq_false_iff_ne.2 (by have := X10.out.1; omega)
  have q611 := q610.out.other HS.out.2.2 (by have := h45.out.2; omega)
  have q11 := HS.out.1
  have B11 := hid HS.out.2.1
  have O11 := hid HS.out.2.2
  clear HS
  generalize w10.setCell ⟨w5.heap.size, 3, none⟩ (.slice none 0 0) = w11 at *
  go_wp2_with (first
    | (refine Sh.wp_sv smS (x := smZ) rfl (.tmp 6) (.tmp 82) rfl rfl (by rfl) q611 ?_; intro w12 q12 b12 o12 s12; have B12 := hid b12; clear b12 o12 s12))
  have hgw : w.heap.size ≤ w5.heap.size := Nat.le_trans M4.out.size B5.out.size
  have M12 := ((((M4.out.then B8.out (Nat.le_of_lt HG.out)).since (B9.out.mono hgw) (Nat.le_of_lt HG.out)).trans M10.out).since (B11.out.mono hgw) (Nat.le_of_lt HG.out)).since B12.out (Nat.le_of_lt HG.out)
  obtain ⟨m, p, hp, R10⟩ := W10.out
  have W : Went w12 g b c pre (t :: rest) m r3 := Went.more (q := [t]) ⟨rest.takeWhile isN ++ p, by rw [List.append_assoc, ← hp, ← hr]; exact (List.takeWhile_append_dropWhile).symm, by rw [← List.append_assoc]; exact (R10.over (B11.out.mono hgw) HG.out HGB.out).over B12.out HG.out HGB.out⟩
  exact bodyPost_ret (results_s1 Tryz.results127 _ rfl q12) rfl ⟨M12, ⟨m, W⟩, X10.out, rfl⟩

set_option maxHeartbeats 1000000 in
set_option maxRecDepth 100000 in
theorem stm_open_ok {d : Nat} {w : World} {g b c many : Nat} {pre rest : List Tk} {t : Tk} (h : Rd w g b c pre (t :: rest) many) (hm : ¬ many = 2000) {u : Tk} {r2 : List Tk} (hf : fewN rest = true) (hr : restF rest = u :: r2) (hu1 : ¬ u.kind = 1) (hu : u.s = [123]) {n m : Nat} {f : Fo} {r3 : List Tk} (hl : ListOk n) (hd : d ≤ 6) (hr2 : r2.length ≤ n) (hx : blkX (lstF n) (d + 1) (many + 1) u r2 = .ok f m r3) :
    Calls Tryz.prog 127 #[.pointer (some ⟨g, 0, none⟩), .string (strB t.s), .int .i64 (d : Nat)] w (SmPost (.ok (.cons t.s (numsF rest) true f .nil) m r3) w g b c pre (t :: rest)) := by
  have HG := hid h.lt
  have hm2 : many ≤ 1999 := by have := h.le2; omega
  have hm3 : many < 2000 := by omega
  have hmf : ((many : Int) == 2000) = false := beq_eq_false_iff_ne.2 (by omega)
  have HGB := hid h.ltb
  have hv := now_s u r2 hu1 (rest_head hr)
  have a1 := as_sw (.string (strB u.s))
  have a2 := as_se (.string (strB u.s))
  have a3 := as_s1 (.string (strB u.s))
  have e1 := sg_ne (l := u.s) (m := [59]) (by rw [hu]; decide)
  have e2 := sg_eq hu
  clear hu
  have HBK := hid (fun w9 (R : Rd w9 g b c (pre ++ [t] ++ rest.takeWhile isN) (u :: r2) (many + 1)) => block_any hl (d := d + 1) (by omega) hr2 R)
  rw [hx, show ((d + 1 : Nat) : Int) = (d : Int) + 1 by omega] at HBK
  have hd6 : (d : Int) ≤ 6 := by omega
  clear hx hl hd hr2
  have HR := hid h
  clear h
  go_enter Tryz.func127, Tryz.ntmps127
  go_upto_region 4 with (first
    | (refine Sh.wp_al smS rfl rfl ?_; intro w1 v1 b1 s1; have B1 := hid b1; have V1 := hid v1; have R1 := HR.out.below b1; have c2 := R1.c2; have f2 := R1.free (j := 2) (by omega); have HK := hid (fun (z : Int) (hz : z = (many : Int) + 1) => R1.many1 hm3 (z := z) hz); clear R1 b1 v1 s1))
  obtain ⟨R2, M2⟩ := HK.out ((many : Int) + 1) rfl
  have M2 := hid ((Mov.of B1.out (Nat.le_of_lt HG.out)).trans M2)
  have V2 := hid (V1.out.mov (HK.out ((many : Int) + 1) rfl).2 HG.out)
  clear HK c2 f2 V1 B1
  generalize w1.setCell ⟨g, 2, none⟩ (.int .i64 ((many : Int) + 1)) = w2 at *
  have c1 := R2.c1
  have f1 := R2.free (j := 1) (by omega)
  have hkl : (pre.length : Int) ≤ 1000000 := by have := R2.le; omega
  have hk0 : 0 ≤ (pre.length : Int) := by omega
  have HK := hid (show ∀ z : Int, z = (pre.length : Int) + 1 → _ from fun z hz => R2.at1 (z := z) hz)
  clear R2
  generalize (pre.length : Int) = q at *
  go_upto_region 5 with fail
  have H36 := hid V2.out.lt
  obtain ⟨R3, M3⟩ := HK.out (q + 1) rfl
  have H36 := hid (Nat.lt_of_lt_of_le H36.out M3.size)
  have V3 := hid (V2.out.mov M3 HG.out)
  have M3 := hid (M2.out.trans M3)
  have HN := hid (numbers_ok R3 hf hr)
  clear HK c1 f1 V2 M2 R3
  generalize w2.setCell ⟨g, 1, none⟩ (.int .i64 (q + 1)) = w3 at *
  go_upto_region 17 with (first
    | (go_at_call 92; refine N7.out.mono ?_; rintro e w8 ⟨rfl, b8⟩; have B8 := hid (B7.out.trans (b8.mono B7.out.size)); have q8 := Q7.out.keep b8; have R8 := hid (R4.out.below (B7.out.trans (b8.mono B7.out.size))); have q68 := Q67.out.keep b8; clear b8)
    | (refine Sh.wp_sv smS (x := ⟨t.s, A, k, c4, false, none, 0, 0⟩) rfl (.tmp 10) (.tmp 54) rfl rfl (by rfl) q6 ?_; intro w7 q7 b7 o7 s7; have B7 := hid (B6.out.trans (b7.mono B5.out.size)); have Q7 := hid q7; have Q67 := hid ((q46.out.keep B6.out).other o7 (by have := H6.out; have := B5.out.size; omega)) ; have N7 := hid (now_is (R4.out.below (B6.out.trans (b7.mono B5.out.size))) hv); clear b7 o7 s7 q6 q7)
    | (refine Sh.wp_al smS rfl rfl ?_; intro w6 q6 b6 s6; have B6 := hid (B5.out.trans (b6.mono B5.out.size)); clear b6 s6)
    | (go_at_call 92; refine N5.out.mono ?_; rintro e w5 ⟨rfl, b5⟩; have B5 := hid b5; have H6 := hid q4.lt; have q46 := hid q4; clear b5 q4)
    | (go_at_call 153; refine HN.out.mono ?_; rintro e w4 ⟨m4, r4, A, k, c4, hk8, rfl, hns⟩; have M4 := hid (M3.out.trans m4); have R4 := hid r4; have q4 := V3.out.mov m4 HG.out; have NS4 := hid (hns.mono (P' := fun j => w3.heap.size ≤ j ∧ j < w4.heap.size) fun _ h _ => h); have N5 := hid (now_is R4.out hv); have K8 := hid hk8; clear m4 r4 hns hk8))
  have hgl : g < w5.heap.size := Nat.lt_of_lt_of_le (Nat.lt_of_lt_of_le HG.out M4.out.size) B5.out.size
  have hbl : b < w5.heap.size := Nat.lt_of_lt_of_le (Nat.lt_of_lt_of_le HGB.out M4.out.size) B5.out.size
  have h45 := hid (And.intro B5.out.size (Nat.lt_of_lt_of_le H6.out B5.out.size))
  have h58 := hid q8.lt
  have c2 := q8.cell (j := 2) rfl
  have f2 := q8.free (j := 2) (by decide)
  have HS := hid (q8.set1 (j := 2) (v := .bool true) (x' := ⟨t.s, A, k, c4, true, none, 0, 0⟩) (by decide) (by
    intro i y hy
    match i, hy with
    | 0, hy => exact hy
    | 1, hy => exact hy
    | 2, hy => exact (Option.some.inj hy).symm
    | 3, hy => exact hy))
  have q68 := hid q68
  clear q8
  have hg5 := hid (And.intro hgl hbl)
  clear hgl hbl
  go_upto_region 18 with fail
  have q9 := HS.out.1
  have R9 := R8.out.over HS.out.2.1 hg5.out.1 hg5.out.2
  have q69 := q68.out.other HS.out.2.2 (by have := h45.out.2; omega)
  have B9 := hid HS.out.2.1
  clear HS c2 f2
  generalize w8.setCell ⟨w5.heap.size, 2, none⟩ (.bool true) = w9 at *
  have HBL := hid (HBK.out w9 R9)
  clear HBK R9
  go_upto_region 19 with (first
    | (go_at_call 155; refine HBL.out.mono ?_; rintro e w10 ⟨m10, h10, A2, k2, c2, rfl, h11⟩; have X10 := hid h11; clear h11; have q10 := q9.mov m10 hg5.out.1; have q610 := hid (q69.mov m10 HG.out); have c3 := q10.cell (j := 3) rfl; have f3 := q10.free (j := 3) (by decide); have Q10 := hid q10; have M10 := hid m10; have W10 := hid h10; clear m10 q10 h10))
  have HS := hid (Q10.out.set1 (j := 3) (v := .slice A2 k2 c2) (x' := ⟨t.s, A, k, c4, true, A2, k2, c2⟩) (by decide) (by
    intro i y hy
    match i, hy with
    | 0, hy => exact hy
    | 1, hy => exact hy
    | 2, hy => exact hy
    | 3, hy => exact (Option.some.inj hy).symm))
  clear c3 f3
  have q611 := q610.out.other HS.out.2.2 (by have := h45.out.2; omega)
  have q11 := HS.out.1
  have B11 := hid HS.out.2.1
  have O11 := hid HS.out.2.2
  clear HS
  generalize w10.setCell ⟨w5.heap.size, 3, none⟩ (.slice A2 k2 c2) = w11 at *
  go_wp2_with (first
    | (refine Sh.wp_sv smS (x := ⟨t.s, A, k, c4, true, A2, k2, c2⟩) rfl (.tmp 6) (.tmp 84) rfl rfl (by rfl) q611 ?_; intro w12 q12 b12 o12 s12; have B12 := hid b12; have O12 := hid o12; clear b12 o12 s12)
    | (refine Sh.wp_ld smS rfl (.tmp 10) rfl rfl q11.1 ?_))
  have hgw : w.heap.size ≤ w5.heap.size := Nat.le_trans M4.out.size B5.out.size
  have M12 := ((((M4.out.then B8.out (Nat.le_of_lt HG.out)).since (B9.out.mono hgw) (Nat.le_of_lt HG.out)).trans M10.out).since (B11.out.mono hgw) (Nat.le_of_lt HG.out)).since B12.out (Nat.le_of_lt HG.out)
  obtain ⟨p, hp, R10⟩ := W10.out
  have W : Went w12 g b c pre (t :: rest) m r3 := Went.more (q := [t]) ⟨rest.takeWhile isN ++ p, by rw [List.append_assoc, ← hp, ← hr]; exact (List.takeWhile_append_dropWhile).symm, by rw [← List.append_assoc]; exact (R10.over (B11.out.mono hgw) HG.out HGB.out).over B12.out HG.out HGB.out⟩
  have h98 : w8.heap.size ≤ w9.heap.size := B9.out.size
  have h87 : w5.heap.size < w8.heap.size := h58.out
  refine bodyPost_ret (results_s1 Tryz.results127 _ rfl q12) rfl ⟨M12, W, ⟨t.s, A, k, c4, true, A2, k2, c2⟩, rfl,
    ⟨⟨t.s, A, k, c4, true, A2, k2, c2⟩, [], rfl, rfl, rfl, ?_, ?_, rfl⟩⟩
  · have n8 := (NS4.out.keep (fun j _ hj => B8.out.block j hj)).mono (P' := fun j => w3.heap.size ≤ j ∧ j < w4.heap.size) (fun j hj _ => hj)
    have n9 := n8.keep (w' := w9) (fun j hj _ => B9.out.block j (by have := hj.2; have := B5.out.size; omega))
    have n10 := n9.keep (w' := w10) (fun j hj hs => M10.out.up j (Nat.lt_of_lt_of_le (Nat.lt_trans HG.out H36.out) hj.1) hs)
    have n11 := n10.keep (w' := w11) (fun j hj _ => B11.out.block j (by have := hj.2; have := B5.out.size; omega))
    have n12 := n11.keep (w' := w12) (fun j hj _ => O12.out j (by have := hj.1; have := H36.out; omega))
    exact n12.mono fun j hj hs => ⟨Nat.le_trans (Nat.le_of_lt H36.out) hj.1, hs⟩
  · have t11 := X10.out.keep (w' := w11) (fun j hj _ => O11.out j (by have := hj.1; omega))
    have t12 := t11.keep (w' := w12) (fun j hj _ => O12.out j (by have := hj.1; have := h45.out.2; omega))
    exact t12.mono fun j hj hs => ⟨by have := hj.1; omega, hs⟩
end Go.Proofs.YtpkoboohnbkpoaaGreatDoor

/-! PU -/
namespace Go.Proofs.YtpkoboohnbkpoaaGreatDoor
open Go Go.RowKit Go.Joins

theorem stm_any {n : Nat} (hl : ListOk n) {d : Nat} {w : World} {g b c many : Nat} {pre rest : List Tk} {t : Tk} (hd : d ≤ 6) (hn : rest.length ≤ n) (h : Rd w g b c pre (t :: rest) many) :
    Calls Tryz.prog 127 #[.pointer (some ⟨g, 0, none⟩), .string (strB t.s), .int .i64 (d : Nat)] w (SmPost (stmX (lstF n) d many t rest) w g b c pre (t :: rest)) := by
  by_cases hm : many = 2000
  · exact stm_full h hm
  unfold stmX
  rw [if_neg hm]
  unfold stmF
  cases hf : fewN rest with
  | false => exact stm_nums h hm hf
  | true =>
    rw [if_pos rfl]
    have hlen : (restF rest).length ≤ n := Nat.le_trans (List.dropWhile_suffix isN).length_le hn
    generalize hr : restF rest = r at hlen
    match r, hr with
    | [], hr => exact stm_end h hm hf hr
    | u :: r2, hr =>
      unfold endF
      simp only
      by_cases hu1 : u.kind = 1
      · rw [if_pos hu1]; exact stm_word h hm hf hr hu1
      rw [if_neg hu1]
      by_cases hu : u.s = [59]
      · rw [if_pos hu]; exact stm_stop h hm hf hr hu1 hu
      rw [if_neg hu]
      by_cases hu2 : u.s = [123]
      · rw [if_pos hu2]
        have hr2 : r2.length ≤ n := by simp at hlen; omega
        by_cases h6 : 6 ≤ d
        · rw [if_pos h6]
          exact stm_open_bad h hm hf hr hu1 hu2 hl hd hr2 (by unfold blkX; rw [if_pos (by omega)])
        rw [if_neg h6]
        have hx : blkX (lstF n) (d + 1) (many + 1) u r2 = blkF (lstF n) (d + 1) (many + 1) r2 := by unfold blkX; rw [if_neg (by omega)]
        generalize blkF (lstF n) (d + 1) (many + 1) r2 = x at hx
        match x with
        | .bad e r3 => exact stm_open_bad h hm hf hr hu1 hu2 hl hd hr2 hx
        | .ok f m r3 => exact stm_open_ok h hm hf hr hu1 hu2 hl hd hr2 hx
      · rw [if_neg hu2]; exact stm_other h hm hf hr hu1 hu hu2

theorem lst_word (n d many : Nat) (t : Tk) (r : List Tk) (h1 : t.kind = 1) : lstF (n + 1) d many (t :: r) = match stmX (lstF n) d many t r with
    | .bad e r2 => .bad e r2
    | .ok x m r2 => preR x (lstF n d m r2) := by
  rw [lstF, if_pos h1]
  unfold stmX
  by_cases hm : many = 2000
  · rw [if_pos hm, if_pos hm]
  · rw [if_neg hm, if_neg hm]
    generalize stmF (lstF n) t.s d (many + 1) r = x
    match x with
    | .bad e r2 => rfl
    | .ok x m r2 =>
      simp only
      generalize lstF n d m r2 = y
      cases y <;> rfl
theorem lst_end (n d many : Nat) : lstF n d many [] = .ok .nil many [] := by cases n <;> rfl
theorem lst_none (n d many : Nat) (t : Tk) (r : List Tk) (h1 : ¬ t.kind = 1) (hn : (t :: r).length ≤ n) : lstF n d many (t :: r) = .ok .nil many (t :: r) := by
  cases n with
  | zero => simp at hn
  | succ n => rw [lstF, if_neg h1]
theorem stmX_one {n d many : Nat} {t : Tk} {r : List Tk} {f : Fo} {m : Nat} {r2 : List Tk} (h : stmX (lstF n) d many t r = .ok f m r2) : f.len = 1 ∧ m = many + f.count ∧ r2.length ≤ r.length := by
  unfold stmX at h
  split at h
  · cases h
  · have h1 := stm_one (fun d m ts => lst_many n d m ts) h
    have h2 := stm_short (fun d m ts => lst_short n d m ts) t.s d (many + 1) r
    rw [h] at h2
    obtain ⟨p, hp⟩ := h2
    exact ⟨h1.1, h1.2.1, by rw [hp]; simp⟩

section
variable {P : Program} {α : Type} (σ : Sh P α) {w : World} {x : α} {ops : Array Oper} {rest : List Oper} {o : Oper} {a : Act} {Q : Exit → Act → World → Prop}
theorem Sh.run_push2 {b base n c : Nat} {A : Option Addr} {l : List α} (ty : TypeId) (hown : σ.Ow w base A n c l) (hrow : w.rangeAt b 0 (σ.enc x)) (hn : n ≤ 1000000) (hbase : base ≤ w.heap.size) :
    ∃ A' c' w', (Builtin.append_ #[σ.S, σ.S] ty #[.slice A n c, .slice (some ⟨b, 0, none⟩) 1 1]).run P w = .ok (.slice A' (n + 1) c') w' ∧ σ.Ow w' base A' (n + 1) c' (l ++ [x]) ∧ w.grownBy w' (Value.ownBlock (.slice A n c)) ∧
      (Value.ownBlock (.slice A' (n + 1) c') = Value.ownBlock (.slice A n c) ∨ Value.ownBlock (.slice A' (n + 1) c') = some w.heap.size) := by
  obtain ⟨i, hi0, hi1, hi2, hi3⟩ := info_parts σ.info
  have hsm := σ.small
  have hmul : (n + 1) * σ.by_ ≤ (n + 1) * 10000 := Nat.mul_le_mul_left _ hsm
  obtain ⟨v', w', hrun, h2, h3, _, h5⟩ := run_append_own_at (P := P) w base σ.S ty σ.T i (.agg (σ.enc σ.z).toArray) σ.N σ.by_ σ.undS hi0 hi1 hi2 hi3 (by simp [Value.cells, σ.len]) σ.pos (.slice A n c) n (σ.flat l) hown ⟨b, 0, none⟩ 1 1 (σ.enc x) (by rw [σ.len, Nat.one_mul])
    (fun j u hu => by rw [plain_add]; exact hrow j u hu) (σ.one x) (by unfold maxLen; omega) (by omega) hbase
  have e1 : σ.flat l ++ σ.enc x = σ.flat (l ++ [x]) := by rw [Sh.flat_app]; simp [Sh.flat]
  rw [e1] at h2
  rcases h2.2 with ⟨rfl, h0⟩ | ⟨g, cap, cur, rfl, r⟩
  · omega
  · exact ⟨_, _, w', hrun, h2, h3, h5⟩
theorem Sh.wp_push2 {b base n c : Nat} {A : Option Addr} {l : List α} (hgd : o.guard = none) (s e : Operand) (ho : o.op = .call { callee := .builtin .append, args := #[s, e], argTypes := #[σ.S, σ.S] })
    (hs : a.eval s = .slice A n c) (hown : σ.Ow w base A n c l) (hx : a.eval e = .slice (some ⟨b, 0, none⟩) 1 1) (hrow : w.rangeAt b 0 (σ.enc x)) (hn : n ≤ 1000000) (hbase : base ≤ w.heap.size)
    (h : ∀ A' c' w', σ.Ow w' base A' (n + 1) c' (l ++ [x]) → w.grownBy w' (Value.ownBlock (.slice A n c)) → (Value.ownBlock (.slice A' (n + 1) c') = Value.ownBlock (.slice A n c) ∨ Value.ownBlock (.slice A' (n + 1) c') = some w.heap.size) → wpList P ops Q rest (a.put o.dst (.slice A' (n + 1) c')) w') : wpList P ops Q (o :: rest) a w := by
  refine wpList_plain hgd fun K hK => ?_
  obtain ⟨A', c', w', hrun, h2, h3, h4⟩ := σ.run_push2 o.type hown hrow hn hbase
  unfold Oper.wp execOp
  simp only [ho, resolve, invoke, builtin, Sem.run_bind, Sem.run_pure, Result.andThen_ok, List.map_toArray, List.map_cons, List.map_nil, hs, hx, hrun]
  exact hK _ _ (h A' c' w' h2 h3 h4)
end

/-- A statement's value behind a list, in the words of its list. -/
def RndPost (x : Res) (w : World) (g b c : Nat) (pre rest : List Tk) (e : Ending) (w' : World) : Prop := SmPost x w g b c pre rest e w'

set_option maxHeartbeats 1000000 in
set_option maxRecDepth 100000 in
theorem list_step (N : Nat) (hl : ∀ k, k < N → ListOk k) : ListOk N := by
  intro deep w g b c many pre rest hd hlen h
  have HG := hid (And.intro h.lt h.ltb)
  have HR := hid h
  have hd6 : (deep : Int) ≤ 6 := by omega
  have HS := hid (fun k (hk : k < N) w many pre rest t (hn : rest.length ≤ k) (h : Rd w g b c pre (t :: rest) many) => stm_any (hl k hk) hd hn h)
  have hlen := hid hlen
  clear h hl hd
  obtain ⟨X, hX⟩ : ∃ X, lstF N deep many rest = X := ⟨_, rfl⟩
  rw [hX]
  have hX := hid hX
  go_enter Tryz.func91, Tryz.ntmps91
  go_wp2
  go_loopw [6] (fun v6 wr => ∃ (done todo : List Tk) (k many' : Nat) (A : Option Addr) (m c' : Nat) (f : Fo) (xs : List Sm), v6 = .slice A m c' ∧ rest = done ++ todo ∧ todo.length ≤ k ∧ k ≤ N ∧ X = preR f (lstF k deep many' todo) ∧ many' = many + f.count ∧ Lo wr w.heap.size A m c' f xs ∧ Rd wr g b c (pre ++ done) todo many' ∧ Mov g w wr) (fun v6 _ => 3000 - lenOf v6)
  case atStart => exact ⟨[], rest, N, many, none, 0, 0, .nil, [], rfl, rfl, hlen.out, Nat.le_refl _, by rw [preR_nil]; exact hX.out.symm, rfl, Lo.nil _ _, by simpa using HR.out, Mov.refl _ _⟩
  case round =>
    obtain ⟨done, todo, k, many', A, m, c', f, xs, rfl, hre, htk, hkN, hXe, hmany, hlo, hrd, hmv⟩ := hrel
    have hm2 : m ≤ 2000 := by have := hlo.len; have := f.len_le; have := hrd.le2; omega
    match todo with
    | [] =>
      have HN := hid (now_is hrd (v := .iface 142 (.agg #[])) rfl)
      have ha := as_ew (.agg #[])
      rw [lst_end] at hXe
      have HX := hid hXe
      have HM := hid hmv
      have HD := hid (And.intro hrd hlo)
      have HE := hid hre
      clear hrd hmv hlo hXe htk hX hre
      go_wp2_with (first
        | (go_at_call 92; refine HN.out.mono ?_; rintro e w1 ⟨rfl, b1⟩; have B1 := hid b1; clear b1))
      go_ret2
      refine ⟨HM.out.then B1.out (Nat.le_of_lt HG.out.1), ?_⟩
      rw [HX.out]
      show Went _ _ _ _ _ _ many' _ ∧ _
      refine ⟨⟨done, HE.out, HD.out.1.below B1.out⟩, A, m, c', rfl, ?_⟩
      rw [Fo.app_nil]
      exact (HD.out.2.below B1.out).tree
    | t :: r =>
      rcases kinds t r with ⟨h1, hv⟩ | ⟨h2, hv⟩ | ⟨h1, h2, hv⟩
      · obtain ⟨k, rfl⟩ : ∃ k2, k = k2 + 1 := ⟨k - 1, by simp at htk; omega⟩
        have htk2 : r.length ≤ k := by simpa using htk
        have HN := hid (now_is hrd hv)
        have ha := as_ww (.string (strB t.s))
        have HST := hid (fun w1 (b1 : Below wr.heap.size wr w1) => HS.out k (by omega) w1 many' (pre ++ done) r t htk2 (hrd.below b1))
        rw [lst_word _ _ _ _ _ h1] at hXe
        have hone := fun (x : Fo) m2 r2 (hx : stmX (lstF k) deep many' t r = .ok x m2 r2) => stmX_one hx
        generalize hx : stmX (lstF k) deep many' t r = x at *
        clear hx
        have HM := hid hmv
        have HD := hid (And.intro hrd hlo)
        have HE := hid hre
        have HK := hid (And.intro htk2 hkN)
        have HO := hid hone
        have HXE := hid hXe
        have HMA := hid hmany
        clear hrd hmv hlo hXe htk hX hre htk2 hone hkN hmany hv HS
        match x with
        | .bad er r2 =>
          go_wp2_with (first
            | (refine Sh.wp_sv smS (x := smZ) rfl (.tmp 9) (.tmp 25) rfl rfl (by rfl) q3 ?_; intro w4 q4 b4 o4 s4; have B4 := hid (B3.out.trans (b4.mono (Nat.le_refl _))); clear q4 b4 o4 s4)
            | (refine Sh.wp_al smS rfl rfl ?_; intro w3 q3 b3 s3; have B3 := hid b3; clear b3 s3)
            | (go_at_call 127; refine (HST.out w1 B1.out).mono ?_; rintro e w2 ⟨m2, h2, h3, rfl⟩; have M2 := hid ((HM.out.then B1.out (Nat.le_of_lt HG.out.1)).trans m2); have W2 := hid h2; have X2 := hid h3; have hne : ((er : Int) == 0) = false := beq_eq_false_iff_ne.2 (by omega); clear m2 h2 h3)
            | (go_at_call 92; refine HN.out.mono ?_; rintro e w1 ⟨rfl, b1⟩; have B1 := hid b1; clear b1))
          go_ret2
          refine ⟨M2.out.then B4.out (Nat.le_of_lt HG.out.1), ?_⟩
          rw [HXE.out]
          show (∃ m, Went _ _ _ _ _ _ m _) ∧ _
          obtain ⟨m2, hw2⟩ := W2.out
          rw [HE.out]
          exact ⟨⟨m2, (Went.more hw2).below B4.out⟩, X2.out, rfl⟩
        | .ok x mm r2 =>
          obtain ⟨ho1, ho2, ho3⟩ := HO.out x mm r2 rfl
          have HO2 := hid (And.intro ho1 (And.intro ho2 ho3))
          clear ho1 ho2 ho3 HO
          go_wp2_with (first
            | (refine Sh.wp_push2 smS (A := A) (c := c') (l := xs) (base := w.heap.size) (x := y) rfl (.tmp 30) (.tmp 32) rfl rfl ((L4.out.ow).alloc _) rfl (range_new w4 _ _) (by omega) (Nat.le_trans H4.out (by simp)) ?_; intro A6 c6 w6 own6 gr6 li6; have O6 := hid own6; have G6 := hid gr6; have I6 := hid li6; clear own6 gr6 li6)
            | (refine Sh.wp_bs smS (x := y) rfl (.tmp 31) rfl rfl ?_)
            | (refine Sh.wp_ld smS rfl (.tmp 9) rfl rfl Q4.out.1 ?_)
            | (refine Sh.wp_sv smS (x := y) rfl (.tmp 9) (.tmp 25) rfl rfl (by rfl) q3 ?_; intro w4 q4 b4 o4 s4; have Q4 := hid q4; have B4 := hid (B3.out.trans (b4.mono (Nat.le_refl _))); have L4 := hid (L2.out.below (B3.out.trans (b4.mono (Nat.le_refl _)))); have H4 := hid (Nat.le_trans M2.out.size (Nat.le_trans B3.out.size (Nat.le_of_eq s4.out.symm))); clear q4 b4 o4 s4)
            | (refine Sh.wp_al smS rfl rfl ?_; intro w3 q3 b3 s3; have B3 := hid b3; clear b3 s3)
            | (go_at_call 127; refine (HST.out w1 B1.out).mono ?_; rintro e w2 ⟨m2, h2, y, rfl, h3⟩; have L2 := hid ((HD.out.2.below B1.out).mov m2 HG.out.1); have M2 := hid ((HM.out.then B1.out (Nat.le_of_lt HG.out.1)).trans m2); have M12 := hid m2; have W2 := hid h2; have X2 := hid h3; clear m2 h2 h3)
            | (go_at_call 92; refine HN.out.mono ?_; rintro e w1 ⟨rfl, b1⟩; have B1 := hid b1; clear b1))
          have HBA := hid (show Below w.heap.size w4 w6 from ((Below.refl _ _).alloc H4.out _).trans (Sh.grown_below smS ((L4.out.ow).alloc _) (Nat.le_trans H4.out (by simp)) G6.out))
          have LO6 := hid (show Lo w6 w.heap.size A6 (m + 1) c6 (f.app x) (xs ++ [y]) by
            have L1 := HD.out.2.below B1.out
            have ba : Below w4.heap.size w4 (w4.alloc (.cells (smS.enc y).toArray smS.T)) := (Below.refl _ _).alloc (Nat.le_refl _) _
            refine Lo.push (w0 := w1) (L4.out.below ba) ?_ (Nat.le_trans HM.out.size B1.out.size) ?_ O6.out G6.out I6.out
            · cases ho : Value.ownBlock (.slice A m c') with
              | none => exact .inl rfl
              | some j => exact .inr ⟨j, rfl, (own_lt L1.ow j ho).2⟩
            · have t4 := (X2.out.keep (fun j hj hs => B4.out.block j hs)).mono (P' := fun j => w1.heap.size ≤ j ∧ j < w4.heap.size) (fun j hj hs => ⟨hj.1, hs⟩)
              exact (t4.keep (fun j hj hs => ba.block j hs)).mono (fun j hj hs => ⟨hj.1, hs⟩))
          go_roundw
          case rel =>
            obtain ⟨p, hp, R2⟩ := W2.out
            obtain ⟨h1, h2, h3⟩ := HO2.out
            refine ⟨done ++ p, r2, k, mm, A6, m + 1, c6, f.app x, xs ++ [y], rfl, by rw [HE.out, hp, List.append_assoc], by have := HK.out.1; omega, by have := HK.out.2; omega, ?_, by rw [Fo.count_app]; have := HMA.out; omega, LO6.out, ?_, (M2.out.then B4.out (Nat.le_of_lt HG.out.1)).since HBA.out (Nat.le_of_lt HG.out.1)⟩
            · rw [HXE.out]; exact preR_app f x _
            · rw [← List.append_assoc]
              exact (R2.below B4.out).over HBA.out HG.out.1 HG.out.2
          case measure => simp [lenOf]; omega
      · have HS2 := hid HS
        clear HS
        have HN := hid (now_is hrd hv)
        have ha := as_nw (.agg #[.int .i64 t.n, .bool t.time])
        rw [lst_none _ _ _ _ _ (by omega) htk] at hXe
        have HX := hid hXe
        have HM := hid hmv
        have HD := hid (And.intro hrd hlo)
        have HE := hid hre
        clear hrd hmv hlo hXe htk hX hre
        go_wp2_with (first
          | (go_at_call 92; refine HN.out.mono ?_; rintro e w1 ⟨rfl, b1⟩; have B1 := hid b1; clear b1))
        go_ret2
        refine ⟨HM.out.then B1.out (Nat.le_of_lt HG.out.1), ?_⟩
        rw [HX.out]
        show Went _ _ _ _ _ _ many' _ ∧ _
        refine ⟨⟨done, HE.out, HD.out.1.below B1.out⟩, A, m, c', rfl, ?_⟩
        rw [Fo.app_nil]
        exact (HD.out.2.below B1.out).tree
      · have HS2 := hid HS
        clear HS
        have HN := hid (now_is hrd hv)
        have ha := as_sw (.string (strB t.s))
        rw [lst_none _ _ _ _ _ h1 htk] at hXe
        have HX := hid hXe
        have HM := hid hmv
        have HD := hid (And.intro hrd hlo)
        have HE := hid hre
        clear hrd hmv hlo hXe htk hX hre
        go_wp2_with (first
          | (go_at_call 92; refine HN.out.mono ?_; rintro e w1 ⟨rfl, b1⟩; have B1 := hid b1; clear b1))
        go_ret2
        refine ⟨HM.out.then B1.out (Nat.le_of_lt HG.out.1), ?_⟩
        rw [HX.out]
        show Went _ _ _ _ _ _ many' _ ∧ _
        refine ⟨⟨done, HE.out, HD.out.1.below B1.out⟩, A, m, c', rfl, ?_⟩
        rw [Fo.app_nil]
        exact (HD.out.2.below B1.out).tree
theorem list_ok (n : Nat) : ListOk n := by
  induction n using Nat.strongRecOn with
  | ind n ih => exact list_step n ih
end Go.Proofs.YtpkoboohnbkpoaaGreatDoor
