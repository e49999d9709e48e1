/-
  The contract of the reader's numbers, at every reader of at most a million tokens.
-/
import Derived.Test.YtinjhnflnfpoeaaGreatDoorPN
namespace Go.Proofs.YtinjhnflnfpoeaaGreatDoor
open Go Go.RowKit Go.Joins

def NumsPost (w : World) (g b c many : Nat) (pre rest : List Tk) (e : Ending) (w' : World) : Prop :=
  Mov g w w' ∧ ((fewN rest = true ∧ Rd w' g b c (pre ++ rest.takeWhile isN) (restF rest) many ∧ ∃ A n c', n ≤ 8 ∧ e = .returned (.tuple #[.slice A n c', .int .i64 0]) ∧ RwP nmS w' (fun k => w.heap.size ≤ k ∧ k < w'.heap.size) A n (numsF rest)) ∨
    (fewN rest = false ∧ Rd w' g b c (pre ++ rest.take 8) (rest.drop 8) many ∧ e = .returned (.tuple #[.slice none 0 0, .int .i64 7])))

theorem takeWhile_done {done todo : List Tk} (h : ∀ t ∈ done, isN t = true) (h2 : todo.takeWhile isN = []) : (done ++ todo).takeWhile isN = done ∧ restF (done ++ todo) = todo := by
  have h3 : todo.dropWhile isN = todo := by
    have := List.takeWhile_append_dropWhile (p := isN) (l := todo)
    rw [h2] at this; exact this
  unfold restF
  induction done with
  | nil => exact ⟨h2, h3⟩
  | cons t d ih =>
    have := ih fun x hx => h x (List.mem_cons_of_mem _ hx)
    rw [List.cons_append, List.takeWhile_cons_of_pos (h t (List.mem_cons_self ..)), List.dropWhile_cons_of_pos (h t (List.mem_cons_self ..)), this.1, this.2]
    exact ⟨rfl, rfl⟩
theorem few_done {done todo : List Tk} (h : ∀ t ∈ done, isN t = true) (h2 : todo.takeWhile isN = []) (h8 : done.length ≤ 8) : fewN (done ++ todo) = true ∧ numsF (done ++ todo) = done.map numT := by
  unfold fewN numsF
  rw [(takeWhile_done h h2).1]
  exact ⟨decide_eq_true h8, rfl⟩
theorem few_over {done : List Tk} {t : Tk} {r : List Tk} (h : ∀ t ∈ done, isN t = true) (ht : isN t = true) (h8 : done.length = 8) : fewN (done ++ t :: r) = false ∧ (done ++ t :: r).take 8 = done ∧ (done ++ t :: r).drop 8 = t :: r := by
  refine ⟨decide_eq_false ?_, by rw [← h8]; simp, by rw [← h8]; simp⟩
  have : (done ++ t :: r).takeWhile isN = done ++ t :: r.takeWhile isN := by
    clear h8
    induction done with
    | nil => rw [List.nil_append, List.takeWhile_cons_of_pos ht]; rfl
    | cons u d ih => rw [List.cons_append, List.takeWhile_cons_of_pos (h u (List.mem_cons_self ..)), ih fun x hx => h x (List.mem_cons_of_mem _ hx)]; rfl
  rw [this]
  simp; omega

def lenOf : Value → Nat
  | .slice _ n _ => n
  | _ => 0

set_option maxRecDepth 100000 in
theorem numbers_any {w : World} {g b c many : Nat} {pre rest : List Tk} (h : Rd w g b c pre rest many) : Calls Tryz.prog 70 #[.pointer (some ⟨g, 0, none⟩)] w (NumsPost w g b c many pre rest) := by
  have HG := hid (And.intro h.lt h.ltb)
  have HR := hid h
  clear h
  go_enter Tryz.func70, Tryz.ntmps70
  go_wp2
  go_loopw [4] (fun v4 wr => ∃ (done todo : List Tk) (A : Option Addr) (k c' : Nat), v4 = .slice A k c' ∧ rest = done ++ todo ∧ (∀ t ∈ done, isN t = true) ∧ k ≤ 8 ∧ nmS.Ow wr w.heap.size A k c' (done.map numT) ∧ Rd wr g b c (pre ++ done) todo many ∧ Mov g w wr) (fun v4 _ => 8 - lenOf v4)
  case atStart => exact ⟨[], rest, none, 0, 0, rfl, rfl, by simp, by omega, Sh.Ow.nil _ _, by simpa using HR.out, Mov.refl _ _⟩
  case round =>
    obtain ⟨done, todo, A, k, c', rfl, hre, hall, hk, how, hrd, hmv⟩ := hrel
    have hlen : done.length = k := by have := how.len; simpa using this
    match todo with
    | [] =>
      have HN := hid (now_is hrd (v := .iface 74 (.agg #[])) rfl)
      have ha := as_en (.agg #[])
      have HM := hid hmv
      have HX := hid (And.intro hrd how)
      have HF := hid (And.intro (few_done hall (todo := []) rfl (by omega)) (takeWhile_done hall (todo := []) rfl))
      clear hrd hmv how hall HR
      go_wp2_with (first
        | (refine Sv.wp_sv ntS (x := (0, false)) rfl (.tmp 5) (.tmp 11) rfl rfl (by rfl) q2 ?_; intro w3 q3 b3 o3 s3; have B3 := hid (B2.out.trans (b3.mono B1.out.size)); clear q3 b3 o3 s3)
        | (refine Sv.wp_al ntS rfl rfl ?_; intro w2 q2 b2 s2; have B2 := hid (B1.out.trans (b2.mono B1.out.size)); clear b2 s2)
        | (go_at_call 40; refine HN.out.mono ?_; rintro e w1 ⟨rfl, b1⟩; have B1 := hid b1; clear b1))
      go_ret2
      exact ⟨HM.out.then B3.out (Nat.le_of_lt HG.out.1), .inl ⟨hre ▸ HF.out.1.1, by rw [hre, HF.out.2.1, HF.out.2.2]; exact HX.out.1.below B3.out, A, k, c', hk, rfl, by
        rw [hre, HF.out.1.2]
        exact (HX.out.2.below B3.out).rowP.mono fun _ h _ => ⟨h.1, h.2.1⟩⟩⟩
    | t :: r =>
    rcases kinds t r with ⟨h1, hv⟩ | ⟨h2, hv⟩ | ⟨_, h2, hv⟩
    · have hn : (t :: r).takeWhile isN = [] := List.takeWhile_cons_of_neg (by simp [isN]; omega)
      have HN := hid (now_is hrd hv)
      have ha := as_wn (.string (strB t.s))
      have HM := hid hmv
      have HX := hid (And.intro hrd how)
      have HF := hid (And.intro (few_done hall hn (by omega)) (takeWhile_done hall hn))
      clear hrd hmv how hall HR
      go_wp2_with (first
        | (refine Sv.wp_sv ntS (x := (0, false)) rfl (.tmp 5) (.tmp 11) rfl rfl (by rfl) q2 ?_; intro w3 q3 b3 o3 s3; have B3 := hid (B2.out.trans (b3.mono B1.out.size)); clear q3 b3 o3 s3)
        | (refine Sv.wp_al ntS rfl rfl ?_; intro w2 q2 b2 s2; have B2 := hid (B1.out.trans (b2.mono B1.out.size)); clear b2 s2)
        | (go_at_call 40; refine HN.out.mono ?_; rintro e w1 ⟨rfl, b1⟩; have B1 := hid b1; clear b1))
      go_ret2
      exact ⟨HM.out.then B3.out (Nat.le_of_lt HG.out.1), .inl ⟨hre ▸ HF.out.1.1, by rw [hre, HF.out.2.1, HF.out.2.2]; exact HX.out.1.below B3.out, A, k, c', hk, rfl, by
        rw [hre, HF.out.1.2]
        exact (HX.out.2.below B3.out).rowP.mono fun _ h _ => ⟨h.1, h.2.1⟩⟩⟩
    · have hn : isN t = true := decide_eq_true h2
      have HN := hid (now_is hrd hv)
      have ha := as_nn (.agg #[.int .i64 t.n, .bool t.time])
      have HM := hid hmv
      have HX := hid (And.intro hrd how)
      have HA := hid hall
      clear hmv how hall HR
      by_cases h8 : k = 8
      · subst h8
        have HF := hid (few_over (r := r) HA.out hn hlen)
        clear hrd
        go_wp2_with (first
          | (refine Sv.wp_sv ntS (x := (t.n, t.time)) rfl (.tmp 5) (.tmp 11) rfl rfl (by rfl) q2 ?_; intro w3 q3 b3 o3 s3; have B3 := hid (B2.out.trans (b3.mono B1.out.size)); clear q3 b3 o3 s3)
          | (refine Sv.wp_al ntS rfl rfl ?_; intro w2 q2 b2 s2; have B2 := hid (B1.out.trans (b2.mono B1.out.size)); clear b2 s2)
          | (go_at_call 40; refine HN.out.mono ?_; rintro e w1 ⟨rfl, b1⟩; have B1 := hid b1; clear b1))
        go_ret2
        exact ⟨HM.out.then B3.out (Nat.le_of_lt HG.out.1), .inr ⟨hre ▸ HF.out.1, by rw [hre, HF.out.2.1, HF.out.2.2]; exact HX.out.1.below B3.out, rfl⟩⟩
      · have hk8 : ((k : Int) == 8) = false := beq_eq_false_iff_ne.2 (by omega)
        have HL := hid hrd.le
        clear hrd
        go_upto_region 8 with (first
          | (refine Sh.wp_push nmS (A := A) (c := c') (l := done.map numT) (base := w.heap.size) (x := (t.n, t.time)) rfl (.tmp 19) (.tmp 21) rfl rfl (((HX.out.2.below B3.out)).alloc _) rfl (range_new w3 _ _) (by omega) (Nat.le_trans (Nat.le_trans HM.out.size B3.out.size) (by simp)) ?_; intro A6 c6 w6 own6 gr6; have B6 := hid (((Below.refl _ _).alloc (Nat.le_trans HM.out.size B3.out.size) _).trans (Sh.grown_below nmS ((HX.out.2.below B3.out).alloc _) (Nat.le_trans (Nat.le_trans HM.out.size B3.out.size) (by simp)) gr6)); have O6 := hid own6; clear own6 gr6)
          | (refine Sh.wp_bs nmS (x := (t.n, t.time)) rfl (.tmp 20) rfl rfl ?_)
          | (refine Sv.wp_ld ntS (x := (t.n, t.time)) rfl (.tmp 5) rfl rfl Q3.out.1 ?_)
          | (refine Sv.wp_sv ntS (x := (t.n, t.time)) rfl (.tmp 5) (.tmp 11) rfl rfl (by rfl) q2 ?_; intro w3 q3 b3 o3 s3; have B3 := hid (B2.out.trans (b3.mono B1.out.size)); have Q3 := hid q3; clear q3 b3 o3 s3)
          | (refine Sv.wp_al ntS rfl rfl ?_; intro w2 q2 b2 s2; have B2 := hid (B1.out.trans (b2.mono B1.out.size)); clear b2 s2)
          | (go_at_call 40; refine HN.out.mono ?_; rintro e w1 ⟨rfl, b1⟩; have B1 := hid b1; clear b1))
        have R6 := (HX.out.1.below B3.out).over B6.out HG.out.1 HG.out.2
        have M6 := hid ((HM.out.then B3.out (Nat.le_of_lt HG.out.1)).since B6.out (Nat.le_of_lt HG.out.1))
        have c1 := R6.c1
        have f1 := R6.free (j := 1) (by omega)
        have HR6 := hid R6
        have HK := hid (show ∀ z : Int, z = ((pre ++ done).length : Int) + 1 → _ from fun z hz => R6.at1 (z := z) hz)
        have hkl : ((pre ++ done).length : Int) ≤ 1000000 := by have := R6.le; omega
        have HE := hid (Eq.refl (pre ++ done).length)
        clear R6
        obtain ⟨q, hq⟩ : ∃ q, (pre ++ done).length = q := ⟨_, rfl⟩
        rw [hq] at c1 hkl
        have HQ := hid hq
        clear hq HE
        go_wp2_with fail
        have R7 := HK.out ((q : Int) + 1) (by rw [HQ.out])
        go_roundw
        case rel => exact ⟨done ++ [t], r, A6, k + 1, c6, rfl, by simp [hre], fun x hx => (List.mem_append.1 hx).elim (HA.out x) (fun hx => by rw [List.mem_singleton.1 hx]; exact hn), by omega, by rw [List.map_append]; exact O6.out.mov R7.2 HG.out.1, by rw [← List.append_assoc]; exact R7.1, M6.out.trans R7.2⟩
        case measure => simp [lenOf]; omega
    · have hn : (t :: r).takeWhile isN = [] := List.takeWhile_cons_of_neg (by simp [isN]; omega)
      have HN := hid (now_is hrd hv)
      have ha := as_sn (.string (strB t.s))
      have HM := hid hmv
      have HX := hid (And.intro hrd how)
      have HF := hid (And.intro (few_done hall hn (by omega)) (takeWhile_done hall hn))
      clear hrd hmv how hall HR
      go_wp2_with (first
        | (refine Sv.wp_sv ntS (x := (0, false)) rfl (.tmp 5) (.tmp 11) rfl rfl (by rfl) q2 ?_; intro w3 q3 b3 o3 s3; have B3 := hid (B2.out.trans (b3.mono B1.out.size)); clear q3 b3 o3 s3)
        | (refine Sv.wp_al ntS rfl rfl ?_; intro w2 q2 b2 s2; have B2 := hid (B1.out.trans (b2.mono B1.out.size)); clear b2 s2)
        | (go_at_call 40; refine HN.out.mono ?_; rintro e w1 ⟨rfl, b1⟩; have B1 := hid b1; clear b1))
      go_ret2
      exact ⟨HM.out.then B3.out (Nat.le_of_lt HG.out.1), .inl ⟨hre ▸ HF.out.1.1, by rw [hre, HF.out.2.1, HF.out.2.2]; exact HX.out.1.below B3.out, A, k, c', hk, rfl, by
        rw [hre, HF.out.1.2]
        exact (HX.out.2.below B3.out).rowP.mono fun _ h _ => ⟨h.1, h.2.1⟩⟩⟩
end Go.Proofs.YtinjhnflnfpoeaaGreatDoor
