/-
  The walk of the statement PicoBack: it returns true at every pair of numbers; under: the tables hold what the program lays (LaidW).
-/
import Derived.Test.YtfhiiklpclkelaaDoorI
namespace Go.Proofs.YtfhiiklpclkelaaDoor
open Go Go.RowKit Go.Joins

set_option maxRecDepth 100000 in
set_option maxHeartbeats 400000 in
theorem back_ok (a b : Int) (w : World) (hL : LaidW w) (ha1 : -1152921504606846976 ≤ a) (ha2 : a ≤ 1152921504606846976) (hb1 : -1152921504606846976 ≤ b) (hb2 : b ≤ 1152921504606846976) (h1 : -1152921504606846976 ≤ a + b) (h2 : a + b ≤ 1152921504606846976) :
    Calls Tryd.prog 4 #[.int .i64 a, .int .i64 b] w fun e w' => e = .returned (.bool true) ∧ Below w.heap.size w w' := by
  obtain ⟨nm, ps, hu, hp, hG⟩ := greatest_some a
  have HU := hid hu
  have HP := hid hp
  have HG := hid hG
  clear hu hp hG
  have hcm : b + a = a + b := Int.add_comm b a
  have hsb : a + b - b = a := by omega
  have HC := hid hcm
  have HS := hid hsb
  clear hcm hsb
  have HL := hid hL
  clear hL
  go_enter Tryd.func4, Tryd.ntmps4
  go_wp2_with fail
  refine (live_any w HL.out).mono ?_
  rintro e w1 ⟨rfl, g1⟩
  go_wp2_with fail
  refine (add_ok a b w1 ha1 ha2 hb1 hb2 h1 h2).mono ?_
  rintro e w2 ⟨rfl, g2⟩
  go_wp2_with fail
  refine (sub_ok (a + b) b w2 h1 h2 hb1 hb2 (by omega) (by omega)).mono ?_
  rintro e w3 ⟨rfl, g3⟩
  rw [HS.out]
  go_wp2_with fail
  refine (add_ok b a w3 hb1 hb2 ha1 ha2 (by omega) (by omega)).mono ?_
  rintro e w4 ⟨rfl, g4⟩
  rw [HC.out]
  go_wp2_with fail
  refine (text_ok a ps nm w4 (((((HL.out.below g1).below g2).below g3).below g4)) ha1 ha2 (unit_size HU.out).1 (unit_size HU.out).2 HG.out).mono ?_
  rintro e w5 ⟨rfl, g5⟩
  generalize hsx : (⟨(Lib.itoa (a.tdiv ps)).toArray⟩ ++ nm : ByteArray) = sx
  have HSX := hid hsx
  clear hsx
  go_wp2_with fail
  have hread := read_itoa (a.tdiv ps) ps nm w5 ((((((HL.out.below g1).below g2).below g3).below g4).below g5)) HU.out (by rw [HP.out]; exact ha1) (by rw [HP.out]; exact ha2)
  rw [HSX.out, HP.out] at hread
  refine hread.mono ?_
  rintro e w6 ⟨rfl, g6⟩
  clear hread
  go_wp2
  go_ret
  exact ⟨ret_bool (by simp), (((((g1).trans (g2.mono (by have := g1.size; omega))).trans (g3.mono (by have := g1.size; have := g2.size; omega))).trans (g4.mono (by have := g1.size; have := g2.size; have := g3.size; omega))).trans (g5.mono (by have := g1.size; have := g2.size; have := g3.size; have := g4.size; omega))).trans (g6.mono (by have := g1.size; have := g2.size; have := g3.size; have := g4.size; have := g5.size; omega))⟩

set_option maxRecDepth 100000 in
set_option maxHeartbeats 400000 in
theorem back_over (a b : Int) (w : World) (hL : LaidW w) (ha1 : -1152921504606846976 ≤ a) (ha2 : a ≤ 1152921504606846976) (hb1 : -1152921504606846976 ≤ b) (hb2 : b ≤ 1152921504606846976) (h : a + b < -1152921504606846976 ∨ 1152921504606846976 < a + b) :
    Calls Tryd.prog 4 #[.int .i64 a, .int .i64 b] w fun e w' => e = .returned (.bool true) ∧ Below w.heap.size w w' := by
  have H := hid h
  clear h
  obtain ⟨nm, ps, hu, hp, hG⟩ := greatest_some a
  have HU := hid hu
  have HP := hid hp
  have HG := hid hG
  clear hu hp hG
  have HL := hid hL
  clear hL
  go_enter Tryd.func4, Tryd.ntmps4
  go_wp2_with fail
  refine (live_any w HL.out).mono ?_
  rintro e w1 ⟨rfl, g1⟩
  go_wp2_with fail
  refine (add_over a b w1 ha1 ha2 hb1 hb2 H.out).mono ?_
  rintro e w2 ⟨rfl, g2⟩
  go_wp2_with fail
  refine (text_ok a ps nm w2 (((HL.out.below g1).below g2)) ha1 ha2 (unit_size HU.out).1 (unit_size HU.out).2 HG.out).mono ?_
  rintro e w3 ⟨rfl, g3⟩
  generalize hsx : (⟨(Lib.itoa (a.tdiv ps)).toArray⟩ ++ nm : ByteArray) = sx
  have HSX := hid hsx
  clear hsx
  go_wp2_with fail
  have hread := read_itoa (a.tdiv ps) ps nm w3 ((((HL.out.below g1).below g2).below g3)) HU.out (by rw [HP.out]; exact ha1) (by rw [HP.out]; exact ha2)
  rw [HSX.out, HP.out] at hread
  refine hread.mono ?_
  rintro e w4 ⟨rfl, g4⟩
  clear hread
  go_wp2
  go_ret
  exact ⟨ret_bool (by simp), (((g1).trans (g2.mono (by have := g1.size; omega))).trans (g3.mono (by have := g1.size; have := g2.size; omega))).trans (g4.mono (by have := g1.size; have := g2.size; have := g3.size; omega))⟩

set_option maxRecDepth 100000 in
set_option maxHeartbeats 400000 in
theorem back_arg (a b : Int) (w : World) (hL : LaidW w) (ha1 : -1152921504606846976 ≤ a) (ha2 : a ≤ 1152921504606846976) (h : b < -1152921504606846976 ∨ 1152921504606846976 < b) :
    Calls Tryd.prog 4 #[.int .i64 a, .int .i64 b] w fun e w' => e = .returned (.bool true) ∧ Below w.heap.size w w' := by
  have H := hid h
  clear h
  obtain ⟨nm, ps, hu, hp, hG⟩ := greatest_some a
  have HU := hid hu
  have HP := hid hp
  have HG := hid hG
  clear hu hp hG
  have HL := hid hL
  clear hL
  go_enter Tryd.func4, Tryd.ntmps4
  go_wp2_with fail
  refine (live_any w HL.out).mono ?_
  rintro e w1 ⟨rfl, g1⟩
  go_wp2_with fail
  refine (add_arg a b w1 (by rw [timeB_no H.out, Bool.and_false])).mono ?_
  rintro e w2 ⟨rfl, g2⟩
  go_wp2_with fail
  refine (text_ok a ps nm w2 (((HL.out.below g1).below g2)) ha1 ha2 (unit_size HU.out).1 (unit_size HU.out).2 HG.out).mono ?_
  rintro e w3 ⟨rfl, g3⟩
  generalize hsx : (⟨(Lib.itoa (a.tdiv ps)).toArray⟩ ++ nm : ByteArray) = sx
  have HSX := hid hsx
  clear hsx
  go_wp2_with fail
  have hread := read_itoa (a.tdiv ps) ps nm w3 ((((HL.out.below g1).below g2).below g3)) HU.out (by rw [HP.out]; exact ha1) (by rw [HP.out]; exact ha2)
  rw [HSX.out, HP.out] at hread
  refine hread.mono ?_
  rintro e w4 ⟨rfl, g4⟩
  clear hread
  go_wp2
  go_ret
  exact ⟨ret_bool (by simp), (((g1).trans (g2.mono (by have := g1.size; omega))).trans (g3.mono (by have := g1.size; have := g2.size; omega))).trans (g4.mono (by have := g1.size; have := g2.size; have := g3.size; omega))⟩

set_option maxRecDepth 100000 in
set_option maxHeartbeats 400000 in
theorem back_no (a b : Int) (w : World) (hL : LaidW w) (h : a < -1152921504606846976 ∨ 1152921504606846976 < a) :
    Calls Tryd.prog 4 #[.int .i64 a, .int .i64 b] w fun e w' => e = .returned (.bool true) ∧ Below w.heap.size w w' := by
  have H := hid h
  clear h
  have HL := hid hL
  clear hL
  go_enter Tryd.func4, Tryd.ntmps4
  go_wp2_with fail
  refine (live_any w HL.out).mono ?_
  rintro e w1 ⟨rfl, g1⟩
  go_wp2_with fail
  refine (add_arg a b w1 (by rw [timeB_no H.out, Bool.false_and])).mono ?_
  rintro e w2 ⟨rfl, g2⟩
  go_wp2_with fail
  refine (text_no a w2 H.out).mono ?_
  rintro e w3 ⟨rfl, g3⟩
  go_wp2_with fail
  refine (may_1 _ _ a false (timeB_no H.out) _ (by simp)).mono ?_
  rintro e w4 ⟨rfl, rfl⟩
  go_wp2
  go_ret
  exact ⟨ret_bool (by simp), (((g1).trans (g2.mono (by have := g1.size; omega))).trans (g3.mono (by have := g1.size; have := g2.size; omega))).alloc (by have := g1.size; have := g2.size; have := g3.size; omega) _⟩

theorem back_walk (a b : Int) (w : World) (hL : LaidW w) (_ : -9223372036854775808 ≤ a) (_ : a ≤ 9223372036854775807) (_ : -9223372036854775808 ≤ b) (_ : b ≤ 9223372036854775807) :
    Calls Tryd.prog 4 #[.int .i64 a, .int .i64 b] w fun e w' => e = .returned (.bool true) ∧ Below w.heap.size w w' := by
  by_cases ha : -1152921504606846976 ≤ a ∧ a ≤ 1152921504606846976
  · by_cases hb : -1152921504606846976 ≤ b ∧ b ≤ 1152921504606846976
    · by_cases hs : -1152921504606846976 ≤ a + b ∧ a + b ≤ 1152921504606846976
      · exact back_ok a b w hL ha.1 ha.2 hb.1 hb.2 hs.1 hs.2
      · exact back_over a b w hL ha.1 ha.2 hb.1 hb.2 (by omega)
    · exact back_arg a b w hL ha.1 ha.2 (by omega)
  · exact back_no a b w hL (by omega)
end Go.Proofs.YtfhiiklpclkelaaDoor
