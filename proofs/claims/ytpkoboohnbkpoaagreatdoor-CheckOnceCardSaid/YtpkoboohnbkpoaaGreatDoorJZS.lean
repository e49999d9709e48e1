/-
  Contracts of what the words tell (the eight closures of check.tells): each sets one number, or four, of a world in memory.
-/
import Derived.Test.YtpkoboohnbkpoaaGreatDoorJZQ
import Derived.BigRegion
import Derived.Deep.CutBlock
import Derived.Deep.DeepCutAuto
namespace Go.Proofs.YtpkoboohnbkpoaaGreatDoor
open Go Go.RowKit Go.Maps

section
variable (p g b o n c0 : Nat) (w : World) (hp : w.cell? ⟨p, 0, none⟩ = some (.pointer (some ⟨g, 0, none⟩)))
include hp
set_option maxRecDepth 100000 in
theorem tl_nodes (z : Int) (v : Value) (hc : w.cell? ⟨b, o, none⟩ = some (.int .i64 z)) (hn : 1 ≤ n) (hg : w.cell? ⟨g, 0, none⟩ = some v) (hf : w.frozen? ⟨g, 0, none⟩ = false) :
    Calls Tryz.prog 133 #[.slice (some ⟨b, o, none⟩) n c0, .pointer (some ⟨p, 0, none⟩)] w fun e w' => e = .returned (.tuple #[]) ∧ w' = (w.setCell ⟨g, 0, none⟩ (.int .i64 z)).drew := by
  have hn' : (0 : Int) < (n : Int) := by omega
  go_enter Tryz.func133, Tryz.ntmps133
  go_region
  all_goals
    go_wp2
    go_end0
    exact ⟨rfl, rfl⟩
set_option maxRecDepth 100000 in
theorem tl_tick (z : Int) (v : Value) (hc : w.cell? ⟨b, o, none⟩ = some (.int .i64 z)) (hn : 1 ≤ n) (hg : w.cell? ⟨g, 5, none⟩ = some v) (hf : w.frozen? ⟨g, 5, none⟩ = false) :
    Calls Tryz.prog 134 #[.slice (some ⟨b, o, none⟩) n c0, .pointer (some ⟨p, 0, none⟩)] w fun e w' => e = .returned (.tuple #[]) ∧ w' = (w.setCell ⟨g, 5, none⟩ (.int .i64 z)).drew := by
  have hn' : (0 : Int) < (n : Int) := by omega
  go_enter Tryz.func134, Tryz.ntmps134
  go_region
  all_goals
    go_wp2
    go_end0
    exact ⟨rfl, rfl⟩
set_option maxRecDepth 100000 in
theorem tl_horizon (z : Int) (v : Value) (hc : w.cell? ⟨b, o, none⟩ = some (.int .i64 z)) (hn : 1 ≤ n) (hg : w.cell? ⟨g, 6, none⟩ = some v) (hf : w.frozen? ⟨g, 6, none⟩ = false) :
    Calls Tryz.prog 136 #[.slice (some ⟨b, o, none⟩) n c0, .pointer (some ⟨p, 0, none⟩)] w fun e w' => e = .returned (.tuple #[]) ∧ w' = (w.setCell ⟨g, 6, none⟩ (.int .i64 z)).drew := by
  have hn' : (0 : Int) < (n : Int) := by omega
  go_enter Tryz.func136, Tryz.ntmps136
  go_region
  all_goals
    go_wp2
    go_end0
    exact ⟨rfl, rfl⟩
set_option maxRecDepth 100000 in
theorem tl_guard (z : Int) (v : Value) (hc : w.cell? ⟨b, o, none⟩ = some (.int .i64 z)) (hn : 1 ≤ n) (hg : w.cell? ⟨g, 10, none⟩ = some v) (hf : w.frozen? ⟨g, 10, none⟩ = false) :
    Calls Tryz.prog 140 #[.slice (some ⟨b, o, none⟩) n c0, .pointer (some ⟨p, 0, none⟩)] w fun e w' => e = .returned (.tuple #[]) ∧ w' = (w.setCell ⟨g, 10, none⟩ (.bool (decide (z = 1)))).drew := by
  have hn' : (0 : Int) < (n : Int) := by omega
  go_enter Tryz.func140, Tryz.ntmps140
  by_cases hz : z = 1
  · subst hz
    go_region
    all_goals
      go_wp2
      go_end0
      exact ⟨rfl, rfl⟩
  · rw [decide_eq_false hz]
    have hz2 : (z == 1) = false := beq_eq_false_iff_ne.2 hz
    go_region
    all_goals
      go_wp2
      go_end0
      exact ⟨rfl, rfl⟩
set_option maxRecDepth 100000 in
theorem tl_drift (gd : Nat) (a z : Int) (i : Nat) (hi : a = (i : Int)) (hi16 : i < 16) (hc : w.cell? ⟨b, o, none⟩ = some (.int .i64 a)) (hc2 : w.cell? ⟨b, o + 2, none⟩ = some (.int .i64 z)) (hn : 2 ≤ n) (hg : w.cell? ⟨g, 7, none⟩ = some (.slice (some ⟨gd, 0, none⟩) 16 16)) (hf : w.frozen? ⟨gd, i, none⟩ = false) (hs : (w.cell? ⟨gd, i, none⟩).isSome = true) :
    Calls Tryz.prog 137 #[.slice (some ⟨b, o, none⟩) n c0, .pointer (some ⟨p, 0, none⟩)] w fun e w' => e = .returned (.tuple #[]) ∧ w' = (w.setCell ⟨gd, i, none⟩ (.int .i64 z)).drew := by
  subst hi
  obtain ⟨v, hv⟩ := Option.isSome_iff_exists.1 hs
  have hn' : (0 : Int) < (n : Int) := by omega
  have hn2 : (1 : Int) < (n : Int) := by omega
  have hi2 : (i : Int) < 16 := by omega
  clear hs hn hi16
  go_enter Tryz.func137, Tryz.ntmps137
  go_region
  all_goals
    go_wp2
    go_end0
    exact ⟨rfl, rfl⟩
set_option maxRecDepth 100000 in
theorem tl_power (gd : Nat) (a z : Int) (i : Nat) (hi : a = (i : Int)) (hi16 : i < 16) (hc : w.cell? ⟨b, o, none⟩ = some (.int .i64 a)) (hc2 : w.cell? ⟨b, o + 2, none⟩ = some (.int .i64 z)) (hn : 2 ≤ n) (hg : w.cell? ⟨g, 8, none⟩ = some (.slice (some ⟨gd, 0, none⟩) 16 16)) (hf : w.frozen? ⟨gd, i, none⟩ = false) (hs : (w.cell? ⟨gd, i, none⟩).isSome = true) :
    Calls Tryz.prog 139 #[.slice (some ⟨b, o, none⟩) n c0, .pointer (some ⟨p, 0, none⟩)] w fun e w' => e = .returned (.tuple #[]) ∧ w' = (w.setCell ⟨gd, i, none⟩ (.int .i64 z)).drew := by
  subst hi
  obtain ⟨v, hv⟩ := Option.isSome_iff_exists.1 hs
  have hn' : (0 : Int) < (n : Int) := by omega
  have hn2 : (1 : Int) < (n : Int) := by omega
  have hi2 : (i : Int) < 16 := by omega
  clear hs hn hi16
  go_enter Tryz.func139, Tryz.ntmps139
  go_region
  all_goals
    go_wp2
    go_end0
    exact ⟨rfl, rfl⟩
set_option maxRecDepth 100000 in
set_option maxHeartbeats 4000000 in
theorem tl_slot (z0 z1 z2 z3 : Int) (v1 v2 v3 v4 : Value) (hc0 : w.cell? ⟨b, o, none⟩ = some (.int .i64 z0)) (hc1 : w.cell? ⟨b, o + 2, none⟩ = some (.int .i64 z1)) (hc2 : w.cell? ⟨b, o + 4, none⟩ = some (.int .i64 z2)) (hc3 : w.cell? ⟨b, o + 6, none⟩ = some (.int .i64 z3)) (hn : 4 ≤ n)
    (hg1 : w.cell? ⟨g, 1, none⟩ = some v1) (hg2 : w.cell? ⟨g, 2, none⟩ = some v2) (hg3 : w.cell? ⟨g, 3, none⟩ = some v3) (hg4 : w.cell? ⟨g, 4, none⟩ = some v4) (hf1 : w.frozen? ⟨g, 1, none⟩ = false) (hf2 : w.frozen? ⟨g, 2, none⟩ = false) (hf3 : w.frozen? ⟨g, 3, none⟩ = false) (hf4 : w.frozen? ⟨g, 4, none⟩ = false) :
    Calls Tryz.prog 135 #[.slice (some ⟨b, o, none⟩) n c0, .pointer (some ⟨p, 0, none⟩)] w fun e w' => e = .returned (.tuple #[]) ∧ w' = ((((w.setCell ⟨g, 1, none⟩ (.int .i64 z0)).setCell ⟨g, 2, none⟩ (.int .i64 z1)).setCell ⟨g, 3, none⟩ (.int .i64 z2)).setCell ⟨g, 4, none⟩ (.int .i64 z3)).drew := by
  have hn0 : (0 : Int) < (n : Int) := by omega
  have hn1 : (1 : Int) < (n : Int) := by omega
  have hn2 : (2 : Int) < (n : Int) := by omega
  have hn3 : (3 : Int) < (n : Int) := by omega
  clear hn
  go_enter Tryz.func135, Tryz.ntmps135
  go_region
  all_goals
    go_wp2
    go_end0
    exact ⟨rfl, rfl⟩
set_option maxRecDepth 100000 in
set_option maxHeartbeats 2000000 in
theorem tl_delay (gl gr : Nat) (a a2 z : Int) (i j : Nat) (hi : a = (i : Int)) (hj : a2 = (j : Int)) (hi16 : i < 16) (hj16 : j < 16) (hc : w.cell? ⟨b, o, none⟩ = some (.int .i64 a)) (hc2 : w.cell? ⟨b, o + 2, none⟩ = some (.int .i64 a2)) (hc3 : w.cell? ⟨b, o + 4, none⟩ = some (.int .i64 z)) (hn : 3 ≤ n) (hg : w.cell? ⟨g, 9, none⟩ = some (.slice (some ⟨gl, 0, none⟩) 16 16)) (hl : w.cell? ⟨gl, i, none⟩ = some (.slice (some ⟨gr, 0, none⟩) 16 16)) (hf : w.frozen? ⟨gr, j, none⟩ = false) (hs : (w.cell? ⟨gr, j, none⟩).isSome = true) :
    Calls Tryz.prog 138 #[.slice (some ⟨b, o, none⟩) n c0, .pointer (some ⟨p, 0, none⟩)] w fun e w' => e = .returned (.tuple #[]) ∧ w' = (w.setCell ⟨gr, j, none⟩ (.int .i64 z)).drew := by
  subst hi hj
  obtain ⟨v, hv⟩ := Option.isSome_iff_exists.1 hs
  have hn' : (0 : Int) < (n : Int) := by omega
  have hn2 : (1 : Int) < (n : Int) := by omega
  have hn3 : (2 : Int) < (n : Int) := by omega
  have hi2 : (i : Int) < 16 := by omega
  have hj2 : (j : Int) < 16 := by omega
  clear hs hn hi16 hj16
  go_enter Tryz.func138, Tryz.ntmps138
  go_region
  all_goals
    go_wp2
    go_end0
    exact ⟨rfl, rfl⟩
end
end Go.Proofs.YtpkoboohnbkpoaaGreatDoor
