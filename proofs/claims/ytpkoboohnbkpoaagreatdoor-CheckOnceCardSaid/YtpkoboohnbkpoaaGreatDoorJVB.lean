/-
  Contract of check.Conf: the world that statements tell of, or which one is wrong.
-/
import Derived.Test.YtpkoboohnbkpoaaGreatDoorJVA
namespace Go.Proofs.YtpkoboohnbkpoaaGreatDoor
open Go Go.RowKit Go.Maps

theorem results_c2 {w : World} {g : Nat} {fn : Func} {p q r : Tmp} (h : fn.results = #[.cell p 45, .tmp q, .tmp r]) (tmps : Array Value) (hp : tmps.getD p undef = .pointer (some ⟨g, 0, none⟩)) {x : Cf × Cs} (hx : cfS.Var w g x) :
    (results fn tmps).run Tryz.prog w = .ok (.tuple #[cfS.val x, tmps.getD q undef, tmps.getD r undef]) w := by
  have : (loadVar 45 ⟨g, 0, none⟩).run Tryz.prog w = .ok (cfS.val x) w := run_loadVar_mid w g 0 cfS.T (cfS.enc x) _ hx.1 cfS.undT cfS.isRow (by rw [cfS.size, cfS.len])
  have hp' : tmps[p]?.getD undef = .pointer (some ⟨g, 0, none⟩) := by simpa using hp
  simp only [results, h]
  simp [Result.andThen, hp', this, asAddr]
theorem cfM_z (w : World) (P : Nat → Prop) : CfM w P cfZ ⟨none, 0, 0, none, 0, 0, none, 0, 0⟩ :=
  ⟨⟨rfl, fun h => absurd h (by simp)⟩, ⟨rfl, fun h => absurd h (by simp)⟩, ⟨[], rfl, rfl, fun h => absurd h (by simp), fun i r row hr => by simp at hr⟩⟩
set_option maxHeartbeats 1000000 in
set_option maxRecDepth 100000 in
theorem conf_any (f : Fo) (w : World) (K : Nat → Prop) (A : Option Addr) (n c : Nat) (hC : LaidC w) (ht : TrS w K A n f) (hK : ∀ k, K k → k < w.heap.size) (hP : ChkAt f (.slice A n c) w) :
    Calls Tryz.prog 27 #[.slice A n c] w fun e w' => ∃ s, e = .returned (.tuple #[cfS.val (confF f, s), .int .i64 ((chkF f).1 : Nat), .int .i64 ((chkF f).2 : Nat)]) ∧ CfM w' (fun k => w.heap.size ≤ k ∧ k < w'.heap.size) (confF f) s ∧ Below w.heap.size w w' := by
  have HCK := hid (fun w' (hb : Below w.heap.size w w') => chkc_any f w' K A n c (hC.below hb) (ht.below hb) (fun k hk => Nat.lt_of_lt_of_le (hK k hk) hb.size) (fun w1 h1 => hP w1 (hb.trans (h1.mono hb.size))))
  have HTD := hid (fun (h : (chkF f).2 = 0) w' (hb : Below w.heap.size w w') => by
    obtain ⟨ks, hks⟩ := chkF_fine h
    have hcnt := (chk_ok hks.chk).2
    exact told_any f w' K A n c (ht.below hb) (fun k hk => Nat.lt_of_lt_of_le (hK k hk) hb.size) (fun x hx => by
      have hx2 := flat_member hx
      rw [← Fo.stL_fst] at hx2
      obtain ⟨q, hq, rfl⟩ := List.mem_map.1 hx2
      exact (hks.each q hq).1) (by rw [ht.len]; have := f.len_le; omega))
  have HI := hid (fun (h : (chkF f).2 = 0) => show (chkF f).1 = 0 from by obtain ⟨ks, hks⟩ := chkF_fine h; rw [fine_chkF hks])
  have HZ := hid (show confF f = if (chkF f).2 = 0 then toldF f.topL else cfZ from rfl)
  clear hC ht hK hP
  generalize confF f = R at *
  generalize hq : chkF f = q at *
  obtain ⟨i, er⟩ := q
  simp only at HCK HTD HZ HI ⊢
  clear hq
  by_cases h0 : er = 0
  · subst h0
    have HT2 := hid (HTD.out rfl)
    have HR := hid (show R = toldF f.topL from HZ.out)
    obtain rfl : i = 0 := HI.out rfl
    clear HTD HZ HI
    go_enter Tryz.func27, Tryz.ntmps27
    go_wp2_with (first
      | (refine Sv.wp_sv cfS rfl (.tmp 2) (.tmp 18) rfl rfl (by rfl) (Q2.out.keep b3) ?_; intro w4 q4 b4 o4 s4)
      | (go_at_call 57; refine (HT2.out w2 B2.out).mono ?_; rintro e w3 ⟨s, rfl, cm, b3⟩; have B3 := hid (B2.out.trans (b3.mono B2.out.size)))
      | (go_at_call 25; refine (HCK.out w1 B1.out).mono ?_; rintro e w2 ⟨rfl, b2⟩; have Q2 := hid (Q1.out.keep b2); have B2 := hid (B1.out.trans (b2.mono B1.out.size)); clear b2)
      | (refine Sv.wp_al cfS rfl rfl ?_; intro w1 q1 b1 s1; have Q1 := hid q1; have B1 := hid b1; clear q1 b1 s1))
    have hb4 : Below w.heap.size w w4 := B3.out.trans b4
    have hlow : ∀ b, w2.heap.size ≤ b ∧ b < w3.heap.size → w4.heap[b]? = w3.heap[b]? := fun b hb => o4 b (by have := Q2.out.lt; omega)
    refine bodyPost_ret (results_c2 Tryz.results27 _ rfl q4) rfl ⟨s, by rw [HR.out]; rfl, ?_, hb4⟩
    rw [HR.out]
    exact (cm.keep hlow).mono fun b hb => ⟨Nat.le_trans B2.out.size hb.1, by rw [s4.out]; exact hb.2⟩
  · have hne : ((er : Int) != 0) = true := by simp; omega
    have hne2 : ¬ (er : Int) = 0 := by omega
    have HR := hid (show R = cfZ by have := HZ.out; rwa [if_neg h0] at this)
    clear HTD HZ HI h0
    go_enter Tryz.func27, Tryz.ntmps27
    go_wp2_with (first
      | (refine Sv.wp_sv cfS (x := cfS.z) rfl (.tmp 2) (.tmp 14) rfl rfl (by rfl) Q2.out ?_; intro w4 q4 b4 o4 s4)
      | (go_at_call 25; refine (HCK.out w1 B1.out).mono ?_; rintro e w2 ⟨rfl, b2⟩; have Q2 := hid (Q1.out.keep b2); have B2 := hid (B1.out.trans (b2.mono B1.out.size)); clear b2)
      | (refine Sv.wp_al cfS rfl rfl ?_; intro w1 q1 b1 s1; have Q1 := hid q1; have B1 := hid b1; clear q1 b1 s1))
    have hb4 : Below w.heap.size w w4 := B2.out.trans b4
    refine bodyPost_ret (results_c2 Tryz.results27 _ rfl q4) rfl ⟨_, by rw [HR.out]; rfl, ?_, hb4⟩
    rw [HR.out]
    exact cfM_z _ _
end Go.Proofs.YtpkoboohnbkpoaaGreatDoor
