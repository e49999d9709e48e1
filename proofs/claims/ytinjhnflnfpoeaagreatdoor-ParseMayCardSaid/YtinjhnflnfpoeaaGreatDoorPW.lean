/-
  Contracts of the reader's all and of Parse, at every text: what its tokens are read as, or what is wrong, and where; under: the tables hold what the program lays (LaidW).
-/
import Derived.Test.YtinjhnflnfpoeaaGreatDoorPV
namespace Go.Proofs.YtinjhnflnfpoeaaGreatDoor
open Go Go.RowKit Go.Joins

set_option maxRecDepth 100000 in
theorem all_any {w : World} {g b c : Nat} {ts : List Tk} (h : Rd w g b c [] ts 0) : Calls Tryz.prog 24 #[.pointer (some ⟨g, 0, none⟩)] w (SlPost (allF ts) w g b c [] ts) := by
  have HG := hid (Nat.le_of_lt h.lt)
  have HL := hid (list_ok ts.length 1 w g b c 0 [] ts (by omega) (Nat.le_refl _) h)
  clear h
  unfold allF
  generalize lstF ts.length 1 0 ts = x at *
  match x with
  | .bad er r =>
    show Calls _ _ _ w (SlPost (.bad er r) w g b c [] ts)
    have HL2 : Hid (Calls Tryz.prog 39 #[.pointer (some ⟨g, 0, none⟩), .int .i64 1] w fun e w1 => Mov g w w1 ∧ (∃ m, Went w1 g b c [] ts m r) ∧ (0 < er ∧ er ≤ 7) ∧ e = .returned (.tuple #[.slice none 0 0, .int .i64 (er : Nat)])) := hid (HL.out.mono fun e w1 h => h)
    clear HL
    go_enter Tryz.func24, Tryz.ntmps24
    go_wp2_with (first
      | (go_at_call 39; refine HL2.out.mono ?_; rintro e w1 ⟨m1, h1, h2, rfl⟩; have X1 := hid (And.intro m1 (And.intro h1 h2)); have hne : ((er : Int) == 0) = false := beq_eq_false_iff_ne.2 (by omega); clear m1 h1 h2))
    go_ret2
    exact ⟨X1.out.1, X1.out.2.1, X1.out.2.2, rfl⟩
  | .ok f m [] =>
    show Calls _ _ _ w (SlPost (.ok f m []) w g b c [] ts)
    have HL2 : Hid (Calls Tryz.prog 39 #[.pointer (some ⟨g, 0, none⟩), .int .i64 1] w fun e w1 => Mov g w w1 ∧ Went w1 g b c [] ts m ([]) ∧ ∃ A k c', e = .returned (.tuple #[.slice A k c', .int .i64 0]) ∧ TrS w1 (fun k => w.heap.size ≤ k ∧ k < w1.heap.size) A k f) := hid (HL.out.mono fun e w1 h => h)
    clear HL
    have ha := as_ee (.agg #[])
    go_enter Tryz.func24, Tryz.ntmps24
    go_wp2_with (first
      | (go_at_call 40; refine HN.out.mono ?_; rintro e w2 ⟨rfl, b2⟩; have B2 := hid b2; clear b2)
      | (go_at_call 39; refine HL2.out.mono ?_; rintro e w1 ⟨m1, ⟨p, hp, r1⟩, A, k, c', rfl, t1⟩; have M1 := hid m1; have R1 := hid r1; have T1 := hid t1; have HN := hid (now_is r1 (v := .iface 74 (.agg #[])) rfl); clear m1 r1 t1))
    go_ret2
    exact ⟨M1.out.then (B2.out.alloc B2.out.size _) HG.out, ⟨p, hp, R1.out.below (B2.out.alloc B2.out.size _)⟩, A, k, c', rfl, (T1.out.keep (fun j _ hs => (B2.out.alloc B2.out.size _).block j hs)).mono fun j hj hs => ⟨hj.1, hs⟩⟩
  | .ok f m (t :: r) =>
    rcases kinds t r with ⟨_, hv⟩ | ⟨_, hv⟩ | ⟨_, _, hv⟩
    · show Calls _ _ _ w (SlPost (.bad 4 (t :: r)) w g b c [] ts)
      have HL2 : Hid (Calls Tryz.prog 39 #[.pointer (some ⟨g, 0, none⟩), .int .i64 1] w fun e w1 => Mov g w w1 ∧ Went w1 g b c [] ts m (t :: r) ∧ ∃ A k c', e = .returned (.tuple #[.slice A k c', .int .i64 0]) ∧ TrS w1 (fun k => w.heap.size ≤ k ∧ k < w1.heap.size) A k f) := hid (HL.out.mono fun e w1 h => h)
      clear HL
      have ha := as_we (.string (strB t.s))
      go_enter Tryz.func24, Tryz.ntmps24
      go_wp2_with (first
        | (go_at_call 40; refine HN.out.mono ?_; rintro e w2 ⟨rfl, b2⟩; have B2 := hid b2; clear b2)
        | (go_at_call 39; refine HL2.out.mono ?_; rintro e w1 ⟨m1, ⟨p, hp, r1⟩, A, k, c', rfl, t1⟩; have M1 := hid m1; have R1 := hid r1; have T1 := hid t1; have HN := hid (now_is r1 hv); clear m1 r1 t1))
      go_ret2
      exact ⟨M1.out.then (B2.out.alloc B2.out.size _) HG.out, ⟨m, p, hp, R1.out.below (B2.out.alloc B2.out.size _)⟩, ⟨by decide, by decide⟩, rfl⟩
    · show Calls _ _ _ w (SlPost (.bad 4 (t :: r)) w g b c [] ts)
      have HL2 : Hid (Calls Tryz.prog 39 #[.pointer (some ⟨g, 0, none⟩), .int .i64 1] w fun e w1 => Mov g w w1 ∧ Went w1 g b c [] ts m (t :: r) ∧ ∃ A k c', e = .returned (.tuple #[.slice A k c', .int .i64 0]) ∧ TrS w1 (fun k => w.heap.size ≤ k ∧ k < w1.heap.size) A k f) := hid (HL.out.mono fun e w1 h => h)
      clear HL
      have ha := as_ne (.agg #[.int .i64 t.n, .bool t.time])
      go_enter Tryz.func24, Tryz.ntmps24
      go_wp2_with (first
        | (go_at_call 40; refine HN.out.mono ?_; rintro e w2 ⟨rfl, b2⟩; have B2 := hid b2; clear b2)
        | (go_at_call 39; refine HL2.out.mono ?_; rintro e w1 ⟨m1, ⟨p, hp, r1⟩, A, k, c', rfl, t1⟩; have M1 := hid m1; have R1 := hid r1; have T1 := hid t1; have HN := hid (now_is r1 hv); clear m1 r1 t1))
      go_ret2
      exact ⟨M1.out.then (B2.out.alloc B2.out.size _) HG.out, ⟨m, p, hp, R1.out.below (B2.out.alloc B2.out.size _)⟩, ⟨by decide, by decide⟩, rfl⟩
    · show Calls _ _ _ w (SlPost (.bad 4 (t :: r)) w g b c [] ts)
      have HL2 : Hid (Calls Tryz.prog 39 #[.pointer (some ⟨g, 0, none⟩), .int .i64 1] w fun e w1 => Mov g w w1 ∧ Went w1 g b c [] ts m (t :: r) ∧ ∃ A k c', e = .returned (.tuple #[.slice A k c', .int .i64 0]) ∧ TrS w1 (fun k => w.heap.size ≤ k ∧ k < w1.heap.size) A k f) := hid (HL.out.mono fun e w1 h => h)
      clear HL
      have ha := as_se (.string (strB t.s))
      go_enter Tryz.func24, Tryz.ntmps24
      go_wp2_with (first
        | (go_at_call 40; refine HN.out.mono ?_; rintro e w2 ⟨rfl, b2⟩; have B2 := hid b2; clear b2)
        | (go_at_call 39; refine HL2.out.mono ?_; rintro e w1 ⟨m1, ⟨p, hp, r1⟩, A, k, c', rfl, t1⟩; have M1 := hid m1; have R1 := hid r1; have T1 := hid t1; have HN := hid (now_is r1 hv); clear m1 r1 t1))
      go_ret2
      exact ⟨M1.out.then (B2.out.alloc B2.out.size _) HG.out, ⟨m, p, hp, R1.out.below (B2.out.alloc B2.out.size _)⟩, ⟨by decide, by decide⟩, rfl⟩
end Go.Proofs.YtinjhnflnfpoeaaGreatDoor
