/-
  palletlaw17.CheckOnce whole. Under: the tables hold what the program lays (LaidW, LaidC).
-/
import Derived.Test.YtpkoboohnbkpoaaGreatDoorJVG
namespace Go.Proofs.YtpkoboohnbkpoaaGreatDoor
open Go Go.RowKit Go.Maps

theorem once17_any (f : Fo) (w : World) (K : Nat → Prop) (A : Option Addr) (n c : Nat) (k : Int) (hL : LaidW w) (hC : LaidC w) (ht : TrS w K A n f) (hK : ∀ k, K k → k < w.heap.size) :
    Calls Tryz.prog 9 #[.slice A n c, .int .i64 k] w fun e w' => e = .returned (.bool true) ∧ Below w.heap.size w w' := by
  show OnceSaid w A n c k
  by_cases h1 : fw17 f = false ∨ n = 0
  · exact once_early f w K A n c k hL hC ht h1
  have hfw : fw17 f = true := by
    cases h : fw17 f with
    | true => rfl
    | false => exact absurd (.inl h) h1
  have hn : 0 < n := Nat.pos_of_ne_zero fun h => h1 (.inr h)
  by_cases he : (chkF f).2 = 0
  · obtain ⟨ks, hks⟩ := chkF_fine he
    have hcnt := (chk_ok hks.chk).2
    have hc4 : f.count ≤ 400 := by
      have := (fw17_few hfw).2
      rw [show IntKind.i64.wrap ((f.count : Nat) : Int) = (f.count : Int) from IntWalk.i64_in _ (by omega)] at this
      omega
    have hnl : n ≤ 400 := by rw [ht.len]; have := f.len_le; omega
    obtain ⟨j, hj, hjv⟩ := idx_ok k n hn (by omega)
    obtain ⟨ys, hx, htr⟩ := ht
    have hjl : j < ys.length := by rw [hx.1]; exact hj
    obtain ⟨a, x, y, cc, hfe, e1, e2, hns, hby⟩ := Tr.split (w := w) (K := K) (ys := ys) j 0 (by simpa using htr) (by omega)
    rw [Nat.zero_add] at e1 e2 hns hby
    obtain ⟨b, o, rfl, hb, hcell⟩ := hx.size.at_ hj
    generalize smS.nth ys j = xm at *
    obtain ⟨xw, xA, xn, xc, xb, xB, xm, xk⟩ := xm
    obtain ⟨xw', ns, xb'⟩ := x
    simp only at e1 e2 hns hby
    subst e1 e2
    cases hwd : St.world ⟨xw, [], false⟩ with
    | true =>
      by_cases hdp : (oneFo repSt (oneFo ⟨xw, ns, xb⟩ y)).depth ≤ 6
      · exact once_w f w K n c b o j ys k a cc y xw ns xb xA xB xn xc xm xk ks hL hC hx htr hK hfw hn hks hc4 hj hjv hfe hcell hns hby hwd hdp
      · exact once_wd f w K n c b o j ys k a cc y xw ns xb xA xB xn xc xm xk ks hL hC hx htr hK hfw hn hks hc4 hj hjv hfe hcell hns hby hwd (by omega)
    | false =>
      by_cases hdp : (oneFo repSt (oneFo ⟨xw, ns, xb⟩ y)).depth ≤ 6
      · exact once_o f w K n c b o j ys k a cc y xw ns xb xA xB xn xc xm xk ks hL hC hx htr hK hfw hn hks hc4 hj hjv hfe hcell hns hby hwd hdp
      · exact once_od f w K n c b o j ys k a cc y xw ns xb xA xB xn xc xm xk ks hL hC hx htr hK hfw hn hks hc4 hj hjv hfe hcell hns hby hwd (by omega)
  · exact once_bad f w K A n c k hL hC ht hK hfw hn he
theorem once_row (A : Option Addr) (n c : Nat) (f : Fo) (k : Int) (w : World) (hL : LaidW w ∧ LaidC w) (ht : TrS w (fun b => b < w.heap.size) A n f) (_ : n ≤ 9223372036854775807) {p q : Prop} (_ : p) (_ : q) :
    Calls Tryz.prog 9 #[.slice A n c, .int .i64 k] w fun e w' => e = .returned (.bool true) ∧ Below w.heap.size w w' := once17_any f w _ A n c k hL.1 hL.2 ht (fun _ h => h)
end Go.Proofs.YtpkoboohnbkpoaaGreatDoor
