/-
  What a text is parsed as, with a bound on the steps (parN), so that it can be reckoned; the contract of the law functions' live: it is true; under: the tables hold what the program lays (LaidW).
-/
import Derived.Test.YtinjhnflnfpoeaaGreatDoorPZ
namespace Go.Proofs.YtinjhnflnfpoeaaGreatDoor
open Go Go.RowKit Go.Joins

def cutN : Nat → List UInt8 → Bool → Pl → List (Tk × Pl) × Option (Pl × Nat)
  | 0, _, _, _ => ([], none)
  | _ + 1, [], _, _ => ([], none)
  | f + 1, c :: r, rem, here =>
    if brok (c :: r) then ([], some (here, 4))
    else if (dec (c :: r)).1 = 10 then cutN f (r.drop ((dec (c :: r)).2 - 1)) false (behindP here 10)
    else if rem = true ∨ (dec (c :: r)).1 = 32 ∨ (dec (c :: r)).1 = 9 then cutN f (r.drop ((dec (c :: r)).2 - 1)) rem (behindP here (dec (c :: r)).1)
    else if (dec (c :: r)).1 = 35 then cutN f (r.drop ((dec (c :: r)).2 - 1)) true (behindP here (dec (c :: r)).1)
    else match tokF (pieceF (c :: r)) with
      | .error e => ([], some (here, e))
      | .ok t => ((t, here) :: (cutN f (r.drop ((pieceF (c :: r)).length - 1)) false ⟨here.line, here.col + (pieceF (c :: r)).length⟩).1, (cutN f (r.drop ((pieceF (c :: r)).length - 1)) false ⟨here.line, here.col + (pieceF (c :: r)).length⟩).2)
theorem cutN_eq : ∀ (f : Nat) (l : List UInt8) (rem : Bool) (here : Pl), l.length ≤ f → cutN f l rem here = cutL l rem here
  | 0, l, rem, here, h => by
    have : l = [] := List.eq_nil_of_length_eq_zero (by omega)
    subst this
    rw [cutN, cutL]
  | f + 1, [], rem, here, h => by rw [cutN, cutL]
  | f + 1, c :: r, rem, here, h => by
    have hr : r.length ≤ f := by simpa using h
    have hd : ∀ k, (r.drop k).length ≤ f := fun k => by rw [List.length_drop]; omega
    rw [cutN, cutL, cutN_eq f _ _ _ (hd _), cutN_eq f _ _ _ (hd _), cutN_eq f _ _ _ (hd _), cutN_eq f _ _ _ (hd _)]
    cases tokF (pieceF (c :: r)) <;> rfl


deriving instance DecidableEq for PRes
def parN (n : Nat) (l : List UInt8) : PRes :=
  if 65536 < l.length then .bad firstP 6
  else match (cutN n l false firstP).2 with
  | some (p, f) => .bad p f
  | none => match allF ((cutN n l false firstP).1.map (·.1)) with
    | .ok f _ _ => .ok f
    | .bad er r => .bad (plS.nth ((cutN n l false firstP).1.map (·.2) ++ [plAt l firstP l.length]) (((cutN n l false firstP).1.map (·.1)).length - r.length)) er
theorem parN_eq (n : Nat) (l : List UInt8) (h : l.length ≤ n) : parF l = parN n l := by
  unfold parF parN toksF placesF
  rw [cutN_eq n l false firstP h]
  rfl
theorem RwP.cells {P : Program} {α : Type} {σ : Sh P α} {w : World} {K : Nat → Prop} {A : Option Addr} {n : Nat} {xs : List α} (h : RwP σ w K A n xs) (hn : 0 < n) : ∃ b o, A = some ⟨b, o, none⟩ ∧ K b ∧ w.rangeAt b o (σ.flat xs) := by
  obtain ⟨b, o, e, hb, hc⟩ := h.2 hn
  exact ⟨b, o, e, hb, fun j u hu => hc j u hu⟩
def liveF : Fo := .cons [97, 116] [(5000, true)] true (.cons [99, 117, 116] [(1, false)] false .nil .nil) .nil
theorem live_par : parF [97, 116, 32, 53, 110, 115, 32, 123, 32, 99, 117, 116, 32, 49, 59, 32, 125] = .ok liveF := by
  rw [parN_eq 17 _ (by decide)]
  decide +kernel

set_option maxRecDepth 100000 in
theorem live_any (w : World) (hL : LaidW w) : Calls Tryz.prog 7 #[] w fun e w' => e = .returned (.bool true) ∧ Below w.heap.size w w' := by
  have HC := parse_any ⟨#[97, 116, 32, 53, 110, 115, 32, 123, 32, 99, 117, 116, 32, 49, 59, 32, 125]⟩ w hL (by decide)
  rw [show parF (⟨#[97, 116, 32, 53, 110, 115, 32, 123, 32, 99, 117, 116, 32, 49, 59, 32, 125]⟩ : ByteArray).data.toList = .ok liveF from live_par] at HC
  have HC := hid HC
  clear hL
  go_enter Tryz.func7, Tryz.ntmps7
  go_wp2_with fail
  refine HC.out.mono ?_
  rintro e w1 ⟨b1, A, n, c, rfl, xs, hx, ⟨x, xs', rfl, e1, e2, hns, ⟨ys, hy, y, ys', rfl, _, _, _, _, rfl⟩, rfl⟩⟩
  obtain rfl : n = 1 := hx.1.symm
  obtain ⟨b, o, rfl, hb, hc⟩ := hx.cells (by omega)
  have hn1 : x.nn = 1 := hns.1.symm
  obtain ⟨b2, o2, hA2, hb2, hc2⟩ := hns.cells (by omega)
  have hn2 : x.bn = 1 := hy.1.symm
  obtain ⟨xw, xA, xn, xc, xb, xB, xm, xk⟩ := x
  simp only at e1 e2 hn1 hn2 hA2
  subst e1 e2 hn1 hn2 hA2
  have c0 : w1.cell? ⟨b, o, none⟩ = some (.string ⟨#[97, 116]⟩) := hc 0 _ rfl
  have c1 : w1.cell? ⟨b, o + 1, none⟩ = some (.slice (some ⟨b2, o2, none⟩) 1 xc) := hc 1 _ rfl
  have c2 : w1.cell? ⟨b, o + 2, none⟩ = some (.bool true) := hc 2 _ rfl
  have c3 : w1.cell? ⟨b, o + 3, none⟩ = some (.slice xB 1 xk) := hc 3 _ rfl
  have d0 : w1.cell? ⟨b2, o2, none⟩ = some (.int .i64 5000) := hc2 0 _ rfl
  have d1 : w1.cell? ⟨b2, o2 + 1, none⟩ = some (.bool true) := hc2 1 _ rfl
  have hb3 := hb.2
  have hb4 := hb2.2
  clear hc hc2 hx hns hy hb hb2
  unfold plV
  go_wp2
  go_ret
  exact ⟨rfl, b1.alloc b1.size _⟩
end Go.Proofs.YtinjhnflnfpoeaaGreatDoor
