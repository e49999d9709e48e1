/-
  Contract of slices.IndexFunc at statements, for check.Check's closure: the first one that names a node that there is not.
-/
import Derived.Test.YtpkoboohnbkpoaaGreatDoorJZX
namespace Go.Proofs.YtpkoboohnbkpoaaGreatDoor
open Go Go.RowKit Go.Maps

def idxZ (r : Option Nat) : Int := match r with
  | some i => (i : Int)
  | none => -1
set_option maxHeartbeats 1000000 in
set_option maxRecDepth 100000 in
theorem sidx_any (f : Fo) (w : World) (K : Nat → Prop) (A : Option Addr) (n c : Nat) (xs : List Sm) (B base pa pf pm : Nat) (m : Int) (ha : w.cell? ⟨pa, 0, none⟩ = some (.map (some B))) (hf : w.cell? ⟨pf, 0, none⟩ = some (bfn pm)) (hp : w.cell? ⟨pm, 0, none⟩ = some (.int .i64 m)) (hF : Fms w B base)
    (hx : RwP smS w K A n xs) (htr : Tr w K f xs) (hcp : ∀ x ∈ xs, x.nn ≤ x.nc) (hok : f.okS) (h1 : ∀ x ∈ f.topL, oneE x = 0) (hn : n ≤ 1000000) :
    Calls Tryz.prog 60 #[.slice A n c, .func (.func 61) #[] #[.pointer (some ⟨pa, 0, none⟩), .pointer (some ⟨pf, 0, none⟩)]] w fun e w' => e = .returned (.int .i64 (idxZ (f.topL.findIdx? (St.beyond m)))) ∧ Below w.heap.size w w' := by
  have HX := hid hx
  have HT := hid (And.intro htr (And.intro hok h1))
  have HCP := hid hcp
  have HL := hid (show f.len = n by rw [← htr.len, hx.1])
  have HC := hid (And.intro ha (And.intro hf (And.intro hp hF)))
  have hla := World.block_lt_of_cell? w _ ha
  have hlf := World.block_lt_of_cell? w _ hf
  have hlp := World.block_lt_of_cell? w _ hp
  have HLL := hid (And.intro hla (And.intro hlf hlp))
  have hnn : (n : Int) ≤ 1000000 := by omega
  obtain ⟨R, hR⟩ : ∃ R : Option Nat, f.topL.findIdx? (St.beyond m) = R := ⟨_, rfl⟩
  rw [hR]
  have HRR := hid hR
  clear hx htr hcp hok h1 ha hf hp hF hn hla hlf hlp hR
  go_enter Tryz.func60, Tryz.ntmps60
  go_wp2
  go_loopw [8] (fun v8 wr => ∃ (i : Nat) (r : Fo), v8 = .int .i64 (i : Nat) ∧ i ≤ n ∧ (r.topL.findIdx? (St.beyond m)).map (· + i) = R ∧ Tr w K r (xs.drop i) ∧ r.okS ∧ (∀ x ∈ r.topL, oneE x = 0) ∧ Below w.heap.size w wr) (fun v8 _ => n - (intOf v8).toNat)
  case atStart => exact ⟨0, f, rfl, Nat.zero_le _, by rw [← HRR.out]; simp, by simpa using HT.out.1, HT.out.2.1, HT.out.2.2, Below.refl _ _⟩
  case round =>
    obtain ⟨i, r, rfl, hi, hrr, htr, hok, hone, hbel⟩ := hrel
    have BW := hid hbel
    have HR2 := hid hrr
    clear hrr
    by_cases hlt : i < n
    · obtain ⟨wd, ns, bl, y, nx, rfl, e1, e2, hns, hy, hnx⟩ := htr.step (by rw [HX.out.1]; exact hlt)
      obtain ⟨b, o, rfl, hb, hcell⟩ := (HX.out.size.below hbel).at_ hlt
      have hxc : (smS.nth xs i).nn ≤ (smS.nth xs i).nc := HCP.out _ (List.mem_of_getElem? (Sh.nth_get smS (by rw [HX.out.1]; exact hlt)))
      generalize smS.nth xs i = x at *
      obtain ⟨xw, xA, xn, xc, xb, xB, xm, xk⟩ := x
      simp only at e1 e2 hns hy hxc
      subst e1 e2
      have r1 : wr.rangeAt b (o + i * 4) (smS.enc ⟨xw, xA, xn, xc, xb, xB, xm, xk⟩) := hcell
      have HE : oneE ⟨xw, ns, xb⟩ = 0 := hone _ (by simp [Fo.topL])
      have HNX := hid (And.intro hnx (And.intro hok.2.2.2 (show ∀ z ∈ nx.topL, oneE z = 0 from fun z hz => hone z (by simp [Fo.topL, hz]))))
      have HXN : xn ≤ 9223372036854775807 := by have := hns.1; have := hok.2.1; omega
      have HF := hid (chk2_any ⟨xw, xA, xn, xc, xb, xB, xm, xk⟩ ns wr B base pa pf pm m ((hbel.cell (p := ⟨pa, 0, none⟩) HLL.out.1).trans HC.out.1) ((hbel.cell (p := ⟨pf, 0, none⟩) HLL.out.2.1).trans HC.out.2.1) ((hbel.cell (p := ⟨pm, 0, none⟩) HLL.out.2.2).trans HC.out.2.2.1) (HC.out.2.2.2.below hbel) HE ((hns.below hbel).size) HXN hxc)
      simp only at HF
      have HQ : Hid ((((⟨xw, ns, xb⟩ : St) :: nx.topL).findIdx? (St.beyond m)).map (· + i) = R) := hid HR2.out
      clear hcell hbel htr hok hone hns hy hnx hb hxc HE HXN HR2
      cases hf : St.beyond m ⟨xw, ns, xb⟩ with
      | true =>
        rw [hf] at HF
        have HV := hid (show some i = R by rw [← HQ.out, List.findIdx?_cons, hf]; simp)
        clear hf HQ
        go_wp2_with (first
          | (go_at_call 61; refine HF.out.mono ?_; rintro e w2 ⟨rfl, b2⟩; have B2 := hid (BW.out.trans (b2.mono BW.out.size)); clear b2)
          | (refine Sh.wp_ld smS rfl (.tmp 14) rfl rfl r1 ?_))
        go_ret
        refine ⟨?_, B2.out⟩
        rw [← HV.out]
        rfl
      | false =>
        rw [hf] at HF
        have HV := hid (show (nx.topL.findIdx? (St.beyond m)).map (· + (i + 1)) = R by
          rw [← HQ.out, List.findIdx?_cons, hf]
          cases nx.topL.findIdx? (St.beyond m) with
          | none => rfl
          | some q => simp; omega)
        clear hf HQ
        go_wp2_with (first
          | (go_at_call 61; refine HF.out.mono ?_; rintro e w2 ⟨rfl, b2⟩; have B2 := hid (BW.out.trans (b2.mono BW.out.size)); clear b2)
          | (refine Sh.wp_ld smS rfl (.tmp 14) rfl rfl r1 ?_))
        exact ⟨⟨i + 1, nx, by go_num, by omega, HV.out, HNX.out.1, HNX.out.2.1, HNX.out.2.2, B2.out⟩, by simp [intOf]; omega⟩
    · obtain rfl : i = n := by omega
      have hr := htr.done (by rw [HX.out.1]; exact Nat.le_refl _)
      subst hr
      have HV := hid (show none = R by have := HR2.out; simpa [Fo.topL] using this)
      clear htr hok hone hbel HR2
      go_wp2
      go_ret
      refine ⟨?_, BW.out⟩
      rw [← HV.out]
      rfl
end Go.Proofs.YtpkoboohnbkpoaaGreatDoor
