/-
  Contract of check.tells: the map of what the words tell, each a closure over the world's variable.
-/
import Derived.Test.YtpkoboohnbkpoaaGreatDoorJZS
import Derived.Deep.CutBlock
import Derived.Deep.DeepCutAuto
namespace Go.Proofs.YtpkoboohnbkpoaaGreatDoor
open Go Go.RowKit Go.Maps

/-- A closure over the variable at p. -/
def clV (f p : Nat) : Value := .func (.func f) #[] #[.pointer (some ⟨p, 0, none⟩)]
def clL (p : Nat) : List (List UInt8 × Value) := [(wNodes, clV 133 p), (wTick, clV 134 p), (wSlot, clV 135 p), (wHorizon, clV 136 p), (wDrift, clV 137 p), (wDelay, clV 138 p), (wPower, clV 139 p), (wGuard, clV 140 p)]
set_option maxRecDepth 100000 in
set_option maxHeartbeats 2000000 in
theorem tells_any (g : Nat) (w : World) :
    Calls Tryz.prog 105 #[.pointer (some ⟨g, 0, none⟩)] w fun e w' => ∃ B, e = .returned (.map (some B)) ∧ Mp w' B (esL (clL w.heap.size)) 8 ∧ w'.cell? ⟨w.heap.size, 0, none⟩ = some (.pointer (some ⟨g, 0, none⟩)) ∧ w.heap.size < B ∧ Below w.heap.size w w' := by
  go_enter Tryz.func105, Tryz.ntmps105
  go_upto_region 1 with (fail)
  have C1 := hid (show (w.alloc (.cells #[.pointer (some ⟨g, 0, none⟩)] 159)).cell? ⟨w.heap.size, 0, none⟩ = some (.pointer (some ⟨g, 0, none⟩)) from by simp)
  have B1 := hid (show Below w.heap.size w (w.alloc (.cells #[.pointer (some ⟨g, 0, none⟩)] 159)) from (Below.refl _ _).alloc (Nat.le_refl _) _)
  have S1 := hid (show w.heap.size < (w.alloc (.cells #[.pointer (some ⟨g, 0, none⟩)] 159)).heap.size from by simp)
  generalize w.alloc (.cells #[.pointer (some ⟨g, 0, none⟩)] 159) = w1 at *
  go_wp2_with (first
    | (have hk := tk0; clear hk; refine wp_ins rfl _ _ _ rfl Tryz.underlying157 rfl rfl rfl H.out.1 rfl ?_; intro w5 m5 b5 o5 s5; have H := hid (And.intro m5 (And.intro (H.out.2.1.trans (b5.mono H.out.2.2.2.1)) (And.intro ((World.cell?_of_block (a := ⟨w.heap.size, 0, none⟩) (o5 _ H.out.2.2.2.2)).trans H.out.2.2.1) (And.intro H.out.2.2.2.1 H.out.2.2.2.2)))); clear m5 b5 o5 s5 tk0; have tk1 := trivial)
    | (have hk := tk1; clear hk; refine wp_ins rfl _ _ _ rfl Tryz.underlying157 rfl rfl rfl H.out.1 rfl ?_; intro w5 m5 b5 o5 s5; have H := hid (And.intro m5 (And.intro (H.out.2.1.trans (b5.mono H.out.2.2.2.1)) (And.intro ((World.cell?_of_block (a := ⟨w.heap.size, 0, none⟩) (o5 _ H.out.2.2.2.2)).trans H.out.2.2.1) (And.intro H.out.2.2.2.1 H.out.2.2.2.2)))); clear m5 b5 o5 s5 tk1; have tk2 := trivial)
    | (have hk := tk2; clear hk; refine wp_ins rfl _ _ _ rfl Tryz.underlying157 rfl rfl rfl H.out.1 rfl ?_; intro w5 m5 b5 o5 s5; have H := hid (And.intro m5 (And.intro (H.out.2.1.trans (b5.mono H.out.2.2.2.1)) (And.intro ((World.cell?_of_block (a := ⟨w.heap.size, 0, none⟩) (o5 _ H.out.2.2.2.2)).trans H.out.2.2.1) (And.intro H.out.2.2.2.1 H.out.2.2.2.2)))); clear m5 b5 o5 s5 tk2; have tk3 := trivial)
    | (have hk := tk3; clear hk; refine wp_ins rfl _ _ _ rfl Tryz.underlying157 rfl rfl rfl H.out.1 rfl ?_; intro w5 m5 b5 o5 s5; have H := hid (And.intro m5 (And.intro (H.out.2.1.trans (b5.mono H.out.2.2.2.1)) (And.intro ((World.cell?_of_block (a := ⟨w.heap.size, 0, none⟩) (o5 _ H.out.2.2.2.2)).trans H.out.2.2.1) (And.intro H.out.2.2.2.1 H.out.2.2.2.2)))); clear m5 b5 o5 s5 tk3; have tk4 := trivial)
    | (have hk := tk4; clear hk; refine wp_ins rfl _ _ _ rfl Tryz.underlying157 rfl rfl rfl H.out.1 rfl ?_; intro w5 m5 b5 o5 s5; have H := hid (And.intro m5 (And.intro (H.out.2.1.trans (b5.mono H.out.2.2.2.1)) (And.intro ((World.cell?_of_block (a := ⟨w.heap.size, 0, none⟩) (o5 _ H.out.2.2.2.2)).trans H.out.2.2.1) (And.intro H.out.2.2.2.1 H.out.2.2.2.2)))); clear m5 b5 o5 s5 tk4; have tk5 := trivial)
    | (have hk := tk5; clear hk; refine wp_ins rfl _ _ _ rfl Tryz.underlying157 rfl rfl rfl H.out.1 rfl ?_; intro w5 m5 b5 o5 s5; have H := hid (And.intro m5 (And.intro (H.out.2.1.trans (b5.mono H.out.2.2.2.1)) (And.intro ((World.cell?_of_block (a := ⟨w.heap.size, 0, none⟩) (o5 _ H.out.2.2.2.2)).trans H.out.2.2.1) (And.intro H.out.2.2.2.1 H.out.2.2.2.2)))); clear m5 b5 o5 s5 tk5; have tk6 := trivial)
    | (have hk := tk6; clear hk; refine wp_ins rfl _ _ _ rfl Tryz.underlying157 rfl rfl rfl H.out.1 rfl ?_; intro w5 m5 b5 o5 s5; have H := hid (And.intro m5 (And.intro (H.out.2.1.trans (b5.mono H.out.2.2.2.1)) (And.intro ((World.cell?_of_block (a := ⟨w.heap.size, 0, none⟩) (o5 _ H.out.2.2.2.2)).trans H.out.2.2.1) (And.intro H.out.2.2.2.1 H.out.2.2.2.2)))); clear m5 b5 o5 s5 tk6; have tk7 := trivial)
    | (have hk := tk7; clear hk; refine wp_ins rfl _ _ _ rfl Tryz.underlying157 rfl rfl rfl H.out.1 rfl ?_; intro w5 m5 b5 o5 s5; have H := hid (And.intro m5 (And.intro (H.out.2.1.trans (b5.mono H.out.2.2.2.1)) (And.intro ((World.cell?_of_block (a := ⟨w.heap.size, 0, none⟩) (o5 _ H.out.2.2.2.2)).trans H.out.2.2.1) (And.intro H.out.2.2.2.1 H.out.2.2.2.2)))); clear m5 b5 o5 s5 tk7; have tk8 := trivial)
    | (refine wp_mkmap rfl rfl ?_; intro w5 m5 b5 s5; have H := hid (show Mp w5 w1.heap.size (esL []) 0 ∧ Below w.heap.size w w5 ∧ w5.cell? ⟨w.heap.size, 0, none⟩ = some (.pointer (some ⟨g, 0, none⟩)) ∧ w.heap.size ≤ w1.heap.size ∧ w.heap.size ≠ w1.heap.size from ⟨m5, B1.out.trans (b5.mono (Nat.le_of_lt S1.out)), (b5.cell (p := ⟨w.heap.size, 0, none⟩) S1.out).trans C1.out, Nat.le_of_lt S1.out, Nat.ne_of_lt S1.out⟩); clear m5 b5 s5; have tk0 := trivial))
  go_ret
  exact ⟨_, rfl, H.out.1, H.out.2.2.1, S1.out, H.out.2.1⟩
end Go.Proofs.YtpkoboohnbkpoaaGreatDoor
