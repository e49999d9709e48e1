/-
  What a text is cut into, with a bound on the steps (cutN), so that it can be reckoned; the contract of the law functions' live: it is true; under: the tables hold what the program lays (LaidW).
-/
import Derived.Test.YtfdieablcffdkaaGreatDoorLI
namespace Go.Proofs.YtfdieablcffdkaaGreatDoor
open Go Go.RowKit Go.Joins

def cutN : Nat → List UInt8 → Bool → Pl → List (Tk × Pl) × Option (Pl × Nat)
  | 0, _, _, _ => ([], none)
  | _ + 1, [], _, _ => ([], none)
  | f + 1, c :: r, rem, here =>
    if brok (c :: r) then ([], some (here, 4))
    else if (dec (c :: r)).1 = 10 then cutN f (r.drop ((dec (c :: r)).2 - 1)) false (behindP here 10)
    else if rem = true ∨ (dec (c :: r)).1 = 32 ∨ (dec (c :: r)).1 = 9 then cutN f (r.drop ((dec (c :: r)).2 - 1)) rem (behindP here (dec (c :: r)).1)
    else if (dec (c :: r)).1 = 35 then cutN f (r.drop ((dec (c :: r)).2 - 1)) true (behindP here (dec (c :: r)).1)
    else match tokF (pieceF (c :: r)) with
      | .error e => ([], some (here, e))
      | .ok t => ((t, here) :: (cutN f (r.drop ((pieceF (c :: r)).length - 1)) false ⟨here.line, here.col + (pieceF (c :: r)).length⟩).1, (cutN f (r.drop ((pieceF (c :: r)).length - 1)) false ⟨here.line, here.col + (pieceF (c :: r)).length⟩).2)
theorem cutN_eq : ∀ (f : Nat) (l : List UInt8) (rem : Bool) (here : Pl), l.length ≤ f → cutN f l rem here = cutL l rem here
  | 0, l, rem, here, h => by
    have : l = [] := List.eq_nil_of_length_eq_zero (by omega)
    subst this
    rw [cutN, cutL]
  | f + 1, [], rem, here, h => by rw [cutN, cutL]
  | f + 1, c :: r, rem, here, h => by
    have hr : r.length ≤ f := by simpa using h
    have hd : ∀ k, (r.drop k).length ≤ f := fun k => by rw [List.length_drop]; omega
    rw [cutN, cutL, cutN_eq f _ _ _ (hd _), cutN_eq f _ _ _ (hd _), cutN_eq f _ _ _ (hd _), cutN_eq f _ _ _ (hd _)]
    cases tokF (pieceF (c :: r)) <;> rfl

theorem Sh.Ow.cells {P : Program} {α : Type} {σ : Sh P α} {w : World} {base n c : Nat} {A : Option Addr} {xs : List α} (h : σ.Ow w base A n c xs) (hn : 0 < n) :
    ∃ g, A = some ⟨g, 0, none⟩ ∧ base ≤ g ∧ g < w.heap.size ∧ ∀ j u, (σ.flat xs)[j]? = some u → w.cell? ⟨g, j, none⟩ = some u := by
  rcases h.2 with ⟨_, h0⟩ | ⟨g, cap, cur, hv, hb, hg, _⟩
  · omega
  · have hA : A = some ⟨g, 0, none⟩ := by injection hv
    subst hA
    exact ⟨g, rfl, hb, (Array.getElem?_eq_some_iff.1 hg).1, fun j u hu => by
      have := World.ownsRow.cells h (g := g) rfl j u hu
      rwa [plain_add, Nat.zero_add] at this⟩

def liveT : List (Tk × Pl) := [(⟨1, [97, 116], 0, false⟩, ⟨1, 1⟩), (⟨2, [53, 110, 115], 5000, true⟩, ⟨1, 4⟩), (⟨3, [59], 0, false⟩, ⟨1, 7⟩)]
theorem live_cut : cutL [97, 116, 32, 53, 110, 115, 59, 32, 35, 32, 115, 111] false firstP = (liveT, none) := by
  rw [← cutN_eq 12 _ _ _ (by decide)]
  decide +kernel

/-- What Cut tells of a text that is cut without a fault. -/
theorem cut_ok (s : ByteArray) (w : World) (hL : LaidW w) (hs : s.size ≤ 65536) (l : List (Tk × Pl)) (h : cutL s.data.toList false firstP = (l, none)) :
    Calls Tryz.prog 15 #[.string s] w fun e w' => ∃ n A c A2 c2, l.length = n ∧ n ≤ s.size ∧ e = .returned (.tuple #[.slice A n c, .slice A2 n c2, .agg #[.int .i64 0, .int .i64 0], .int .i64 0]) ∧ tkS.Ow w' w.heap.size A n c (l.map (·.1)) ∧ plS.Ow w' w.heap.size A2 n c2 (l.map (·.2)) ∧ Below w.heap.size w w' := by
  refine (lcut_any s w hL (by omega)).mono ?_
  rintro e w' ⟨hb, ⟨h1, _⟩ | ⟨_, p, f, h1, _⟩ | ⟨_, h1, n, A, c, A2, c2, hn, hn2, he, ht, hp⟩⟩
  · omega
  · rw [h] at h1; cases h1
  · rw [h] at hn ht hp
    exact ⟨n, A, c, A2, c2, hn, hn2, he, ht, hp, hb⟩
theorem cut_no (s : ByteArray) (w : World) (hL : LaidW w) (hs : s.size ≤ 65536) (l : List (Tk × Pl)) (p : Pl) (f : Nat) (h : cutL s.data.toList false firstP = (l, some (p, f))) :
    Calls Tryz.prog 15 #[.string s] w fun e w' => e = .returned (.tuple #[.slice none 0 0, .slice none 0 0, .agg #[.int .i64 p.line, .int .i64 p.col], .int .i64 (f : Nat)]) ∧ Below w.heap.size w w' := by
  refine (lcut_any s w hL (by omega)).mono ?_
  rintro e w' ⟨hb, ⟨h1, _⟩ | ⟨_, p2, f2, h1, he⟩ | ⟨_, h1, n, A, c, A2, c2, hn, hn2, he, ht, hp⟩⟩
  · omega
  · rw [h] at h1
    cases h1
    exact ⟨he, hb⟩
  · rw [h] at h1; cases h1

set_option maxRecDepth 100000 in
theorem live_any (w : World) (hL : LaidW w) : Calls Tryz.prog 5 #[] w fun e w' => e = .returned (.bool true) ∧ Below w.heap.size w w' := by
  have HC := hid (cut_ok ⟨#[97, 116, 32, 53, 110, 115, 59, 32, 35, 32, 115, 111]⟩ w hL (by decide) liveT live_cut)
  clear hL
  go_enter Tryz.func5, Tryz.ntmps5
  go_wp2_with fail
  refine HC.out.mono ?_
  rintro e w1 ⟨n, A, c, A2, c2, hn, _, rfl, ht, hp, b1⟩
  obtain rfl : n = 3 := hn.symm
  obtain ⟨g, rfl, hg1, hg2, hc⟩ := ht.cells (by omega)
  obtain ⟨g2, rfl, hh1, hh2, hd⟩ := hp.cells (by omega)
  have c1 : w1.cell? ⟨g, 1, none⟩ = some (.string ⟨#[97, 116]⟩) := hc 1 _ rfl
  have c6 : w1.cell? ⟨g, 6, none⟩ = some (.int .i64 5000) := hc 6 _ rfl
  have c7 : w1.cell? ⟨g, 7, none⟩ = some (.bool true) := hc 7 _ rfl
  have d4 : w1.cell? ⟨g2, 4, none⟩ = some (.int .i64 1) := hd 4 _ rfl
  have d5 : w1.cell? ⟨g2, 5, none⟩ = some (.int .i64 7) := hd 5 _ rfl
  clear hc hd ht hp hn hg1 hh1
  go_wp2
  go_ret
  exact ⟨rfl, b1.alloc b1.size _⟩
end Go.Proofs.YtfdieablcffdkaaGreatDoor
