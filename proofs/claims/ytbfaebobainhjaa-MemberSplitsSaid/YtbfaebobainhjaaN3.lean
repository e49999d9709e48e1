/-
  The document's own Round: what it answers, at every schedule, node, own members, slot and list of verdicts.
-/
import Derived.Test.YtbfaebobainhjaaN2
import Derived.Test.YtbfaebobainhjaaU
namespace Go.Proofs.Ytbfaebobainhjaa
open Go Go.RowKit Go.Maps
theorem rafter_ok (x : Md) (me k v : Int) (own : Nat) (w : World) (hk : 0 ≤ k) (ho : own < 65536) (hm : May x me k) (hv : OkV v) :
    Calls Try.prog 14 #[mv x, .int .i64 me, .int .u16 (own : Int), .int .u64 k, .int .i64 v] w (RetA (aft (slO x k) me.toNat own v) 0 w) := by
  have h := rafter_any x me k v own w hk ho
  unfold aftM aftE at h
  rw [if_pos ⟨hm, hv⟩, if_pos ⟨hm, hv⟩] at h
  exact h
theorem rround_no (x : Md) (me k : Int) (own : Nat) (A : Option Addr) (n c : Nat) (w : World) (hk : 0 ≤ k) (hm : ¬ May x me k) : Calls Try.prog 20 #[mv x, .int .i64 me, .int .u16 (own : Int), .int .u64 k, .slice A n c] w (RetR (0, tz, 1) w) := by
  have HS := hid (fun w => rseen_no x me k w hk hm)
  clear hm hk
  go_enter Try.func20, Try.ntmps20
  go_wp2_with (first
    | (refine wpList_svt (x := tz) rfl (.tmp 11) (.tmp 36) rfl rfl rfl t3 ?_; intro w4 t4 b4 o4 s4; have B4 : Hid (Below w.heap.size w w4) := hid (B3.out.trans (b4.mono LW.out)))
    | (go_at_call 29; (with_reducible refine (HS.out w2).mono ?_); rintro e w3 ⟨O3, rfl, b3⟩; have t3 := t2.keep b3; have B3 : Hid (Below w.heap.size w w3) := hid (B2.out.trans (b3.mono B2.out.size)))
    | (refine wpList_ldm rfl (.tmp 5) rfl rfl m2 ?_)
    | (refine wpList_alt rfl rfl ?_; intro w2 t2 b2 s2; have m2 := v1.keep b2; have B2 : Hid (Below w.heap.size w w2) := hid (b1.trans (b2.mono b1.size)); have LW := hid b1.size)
    | (refine wpList_boxm (x := x) rfl (.tmp 0) rfl rfl ?_; intro w1 v1 b1 s1))
  refine bodyPost_ret (w := w4) (results_iti Try.results20 _ rfl rfl rfl t4) rfl ?_
  exact ⟨rfl, B4.out⟩
theorem rround_long (N s f0 f1 d me k : Int) (own : Nat) (A : Option Addr) (n c : Nat) (w : World) (hk : 0 ≤ k) (hm : May ⟨N, s, f0, f1, d⟩ me k) (hn : N < n) (_hn2 : n ≤ 100000) : Calls Try.prog 20 #[mv ⟨N, s, f0, f1, d⟩, .int .i64 me, .int .u16 (own : Int), .int .u64 k, .slice A n c] w (RetR (0, tz, 1) w) := by
  have HS := hid (fun w => rseen_ok N s f0 f1 d me k w hk hm)
  clear hm hk
  generalize k % N = O at *
  go_enter Try.func20, Try.ntmps20
  go_wp2_with (first
    | (refine wpList_svt (x := tz) rfl (.tmp 11) (.tmp 36) rfl rfl rfl t3 ?_; intro w4 t4 b4 o4 s4; have B4 : Hid (Below w.heap.size w w4) := hid (B3.out.trans (b4.mono LW.out)))
    | (go_at_call 29; (with_reducible refine (HS.out w2).mono ?_); rintro e w3 ⟨rfl, b3⟩; have t3 := t2.keep b3; have c0 : w3.cell? ⟨w.heap.size, 0, none⟩ = some (.int .i64 N) := (m2.keep b3).c0; have B3 : Hid (Below w.heap.size w w3) := hid (B2.out.trans (b3.mono B2.out.size)))
    | (refine wpList_ldm rfl (.tmp 5) rfl rfl m2 ?_)
    | (refine wpList_alt rfl rfl ?_; intro w2 t2 b2 s2; have m2 := v1.keep b2; have B2 : Hid (Below w.heap.size w w2) := hid (b1.trans (b2.mono b1.size)); have LW := hid b1.size)
    | (refine wpList_boxm (x := ⟨N, s, f0, f1, d⟩) rfl (.tmp 0) rfl rfl ?_; intro w1 v1 b1 s1))
  refine bodyPost_ret (w := w4) (results_iti Try.results20 _ rfl rfl rfl t4) rfl ?_
  exact ⟨rfl, B4.out⟩
set_option maxHeartbeats 4000000 in
theorem rround_in (N s f0 f1 d me k : Int) (own : Nat) (A : Option Addr) (n c : Nat) (l : List Int) (w : World) (hk : 0 ≤ k) (hm : May ⟨N, s, f0, f1, d⟩ me k) (hn : (n : Int) ≤ N) (ha : Row w w.heap.size A n (sv l)) (hb : ∀ z ∈ l, KeyI z) (ho : own < 65536) (R : Nat × Ty × Int) (hR : rnd ⟨N, s, f0, f1, d⟩ me k l own tz = R) :
    Calls Try.prog 20 #[mv ⟨N, s, f0, f1, d⟩, .int .i64 me, .int .u16 (own : Int), .int .u64 k, .slice A n c] w (RetR R w) := by
  have hl : l.length = n := by have := ha.1; rwa [sv_len] at this
  have HS := hid (fun w => rseen_ok N s f0 f1 d me k w hk hm)
  have hN : N ≤ 16 := hm.1.2.1
  have hk4 : k ≤ 4294967296 := hm.2.1
  have HM := hid hm
  have HL := hid hl
  have HA := hid ha
  have HB := hid hb
  have HO := hid ho
  have HR := hid hR
  clear hm ha hb hl ho hR
  generalize k % N = O at *
  go_enter Try.func20, Try.ntmps20
  go_wp2_with (first
    | (refine wpList_svt (x := tz) rfl (.tmp 15) (.tmp 37) rfl rfl rfl u4 ?_; intro w5 u5 b5 o5 s5; have t5 := t4.below b5 LT.out; have m5 := m4.below b5 LM.out; have B5 : Hid (Below w.heap.size w w5) := hid (B4.out.trans (b5.mono LW.out)))
    | (refine wpList_alt rfl rfl ?_; intro w4 u4 b4 s4; have t4 := t3.keep b4; have m4 := m3.keep b4; have B4 : Hid (Below w.heap.size w w4) := hid (B3.out.trans (b4.mono B3.out.size)); have LW := hid B3.out.size; have LT := hid t3.lt; have LM := hid m3.lt)
    | (go_at_call 29; (with_reducible refine (HS.out w2).mono ?_); rintro e w3 ⟨rfl, b3⟩; have t3 := t2.keep b3; have m3 := m2.keep b3; have c0 : w3.cell? ⟨w.heap.size, 0, none⟩ = some (.int .i64 N) := m3.c0; have B3 : Hid (Below w.heap.size w w3) := hid (B2.out.trans (b3.mono B2.out.size)))
    | (refine wpList_ldm rfl (.tmp 5) rfl rfl m2 ?_)
    | (refine wpList_alt rfl rfl ?_; intro w2 t2 b2 s2; have m2 := v1.keep b2; have LX := hid v1.lt; have B2 : Hid (Below w.heap.size w w2) := hid (b1.trans (b2.mono b1.size)); have LV := hid b1.size)
    | (refine wpList_boxm (x := ⟨N, s, f0, f1, d⟩) rfl (.tmp 0) rfl rfl ?_; intro w1 v1 b1 s1))
  have HG : Hid (w.heap.size < w1.heap.size ∧ w1.heap.size < w3.heap.size ∧ w.heap.size < w3.heap.size) := hid ⟨LX.out, LT.out, LM.out⟩
  go_loopw [2, 40] (RdRel ⟨N, s, f0, f1, d⟩ me k l R w w.heap.size w1.heap.size w3.heap.size) (fun _ i _ => n - (intOf i).toNat)
  case atStart => exact ⟨0, own, tz, Nat.zero_le _, rfl, rfl, hid m5, hid u5, hid t5, B5, hid (by simpa using HR.out), HO, hid (by decide)⟩
  case round =>
    clear HR m5 u5 t5 B5 b5 o5 s5 m4 u4 t4 B4 b4 s4 m3 t3 B3 b3 c0 m2 t2 B2 b2 s2 v1 b1 s1 HS LX LT LM LV LW
    clear HO
    obtain ⟨j, own1, t, hj, rfl, rfl, M5, T16, T11, BW, HR, HO, HT⟩ := hrel
    generalize w1.heap.size = g11 at *
    generalize w3.heap.size = g16 at *
    clear w1 w2 w3 w4 w5
    have hl := HL.out
    have hjn : j ≤ n := by omega
    clear hl hj
    by_cases hlt : j < n
    · obtain ⟨b, o, u, rfl, hbb, hu, hcell⟩ := (HA.out.below BW.out).at_ hlt
      obtain rfl := sv_get (by rw [HL.out]; exact hlt) hu
      have HV := hid (HB.out _ (getD_mem l j (by rw [HL.out]; exact hlt)))
      have HD := HR.out
      rw [drop_getD l j (by rw [HL.out]; exact hlt)] at HD
      generalize l.getD j 0 = v at *
      clear hu hbb HR
      have hwr : IntKind.u64.wrap (k + (j : Int)) = k + (j : Int) := by rw [IntKind.wrap_u64]; omega
      by_cases hok : May ⟨N, s, f0, f1, d⟩ me (k + (j : Int)) ∧ OkV v
      · rw [rnd_on _ _ _ _ _ _ _ hok] at HD
        have HF := hid (fun w => rafter_ok ⟨N, s, f0, f1, d⟩ me (k + (j : Int)) v own1 w (by omega) HO.out hok.1 hok.2)
        obtain ⟨q1, q2, q3, q4, q5⟩ := slO_cast _ me _ hok.1
        have HP := hid (aft_lt (slO ⟨N, s, f0, f1, d⟩ (k + (j : Int))) me.toNat own1 v HO.out q2 q5)
        have HC := hid (fun w => rcount_any t v w)
        rw [show cntT t v = cnt t v from if_pos ⟨hok.2, cnt_okT t j (by omega) HT.out⟩, show cntE t v = 0 from if_pos ⟨hok.2, cnt_okT t j (by omega) HT.out⟩] at HC
        have HT2 := hid (cnt_small t v j (by omega) HT.out)
        have HE := hid HD
        clear q1 q2 q3 q4 q5 HD HT hok HO
        generalize aft (slO ⟨N, s, f0, f1, d⟩ (k + (j : Int))) me.toNat own1 v = P at *
        generalize cnt t v = t' at *
        go_wp2_with (first
          | (refine wpList_svt rfl (.tmp 15) (.tmp 66) rfl rfl rfl t3 ?_; intro w4 t4 b4 o4 s4; have m4 := m3.below b4 HG.out.2.2; have z4 := z3.below b4 HG.out.2.1; have B4 : Hid (Below w.heap.size w w4) := hid (B3.out.trans (b4.mono (Nat.le_of_lt HG.out.2.2))))
          | (go_at_call 16; (with_reducible refine (HC.out w2).mono ?_); rintro e w3 ⟨rfl, b3⟩; have m3 := m2.keep b3; have t3 := t2.keep b3; have z3 := z2.keep b3; have B3 : Hid (Below w.heap.size w w3) := hid (B2.out.trans (b3.mono B2.out.size)))
          | (refine wpList_ldt rfl (.tmp 15) rfl rfl t2 ?_)
          | (go_at_call 14; (with_reducible refine (HF.out wr).mono ?_); rintro e w2 ⟨rfl, b2⟩; have m2 := M5.out.keep b2; have t2 := T16.out.keep b2; have z2 := T11.out.keep b2; have B2 : Hid (Below w.heap.size w w2) := hid (BW.out.trans (b2.mono BW.out.size)))
          | (refine wpList_ldm rfl (.tmp 5) rfl rfl M5.out ?_))
        refine ⟨⟨j + 1, P, t', by rw [HL.out]; omega, rfl, by go_num, hid m4, hid t4, hid z4, B4, hid ?_, HP, HT2⟩, by simp [intOf]; omega⟩
        have := HE.out
        rwa [Int.add_assoc] at this
      · rw [rnd_err _ _ _ _ _ _ _ hok] at HD
        subst HD
        have HF := hid (fun w => rafter_any ⟨N, s, f0, f1, d⟩ me (k + (j : Int)) v own1 w (by omega) HO.out)
        rw [show aftM ⟨N, s, f0, f1, d⟩ me (k + (j : Int)) own1 v = 0 from if_neg hok, show aftE ⟨N, s, f0, f1, d⟩ me (k + (j : Int)) v = 1 from if_neg hok] at HF
        clear hok HO HT
        go_wp2_with (first
          | (refine wpList_svt (x := tz) rfl (.tmp 11) (.tmp 59) rfl rfl rfl z2 ?_; intro w4 t4 b4 o4 s4; have B4 : Hid (Below w.heap.size w w4) := hid (B2.out.trans (b4.mono (Nat.le_of_lt HG.out.1))))
          | (go_at_call 14; (with_reducible refine (HF.out wr).mono ?_); rintro e w2 ⟨rfl, b2⟩; have z2 := T11.out.keep b2; have B2 : Hid (Below w.heap.size w w2) := hid (BW.out.trans (b2.mono BW.out.size)))
          | (refine wpList_ldm rfl (.tmp 5) rfl rfl M5.out ?_))
        refine bodyPost_ret (w := w4) (results_iti Try.results20 _ rfl rfl rfl t4) rfl ?_
        exact ⟨rfl, B4.out⟩
    · obtain rfl : j = n := by omega
      have HD := HR.out
      rw [rnd_stop _ _ _ _ _ _ (List.drop_eq_nil_of_le (by rw [HL.out]; exact Nat.le_refl _))] at HD
      subst HD
      clear HR
      obtain ⟨tg, tb⟩ := t
      have e0 : wr.cell? ⟨g16, 0, none⟩ = some (.int .i64 tg) := T16.out.c0
      have e1 : wr.cell? ⟨g16, 1, none⟩ = some (.int .i64 tb) := T16.out.c1
      have d0 : wr.cell? ⟨g11, 0, none⟩ = some (.int .i64 0) := T11.out.c0
      have d1 : wr.cell? ⟨g11, 1, none⟩ = some (.int .i64 0) := T11.out.c1
      have r0 := (T11.out.2 0 (by omega)).2
      have r1 := (T11.out.2 1 (by omega)).2
      rw [Nat.zero_add] at r0 r1
      have n1 : ¬ g11 = g16 := by have := HG.out.2.1; omega
      have n2 : ¬ g16 = g11 := by have := HG.out.2.1; omega
      go_wp2_with fail
      go_region
      go_wp2_with fail
      have t4 := vart_stored T11.out.2 ⟨tg, tb⟩
      have o4 := setCells_oth g11 (enct ⟨tg, tb⟩) 0 wr
      have B4 : Below w.heap.size w (wr.setCells g11 0 (enct ⟨tg, tb⟩)) := BW.out.trans (o4.1.mono (Nat.le_of_lt HG.out.1))
      clear e0 e1 d0 d1 r0 r1 o4
      generalize hV : wr.setCells g11 0 (enct ⟨tg, tb⟩) = W at t4 B4
      simp only [World.setCells, enct, Nat.reduceAdd] at hV
      rw [hV]
      refine bodyPost_ret (w := W.drew) (results_iti Try.results20 _ rfl rfl rfl (show VarT W.drew _ _ from t4)) rfl ?_
      exact ⟨rfl, B4.drew⟩
theorem rround_any (x : Md) (me k : Int) (own : Nat) (A : Option Addr) (n c : Nat) (l : List Int) (w : World) (hk : 0 ≤ k) (hn : n ≤ 100000) (ha : Row w w.heap.size A n (sv l)) (hb : ∀ z ∈ l, KeyI z) (ho : own < 65536) :
    Calls Try.prog 20 #[mv x, .int .i64 me, .int .u16 (own : Int), .int .u64 k, .slice A n c] w (RetR (rndA x me k l own) w) := by
  have hl : l.length = n := by have := ha.1; rwa [sv_len] at this
  by_cases hm : May x me k
  · obtain ⟨N, s, f0, f1, d⟩ := x
    by_cases h : (n : Int) ≤ N
    · rw [show rndA ⟨N, s, f0, f1, d⟩ me k l own = rnd ⟨N, s, f0, f1, d⟩ me k l own tz from if_pos ⟨hm, by rw [hl]; exact h⟩]
      exact rround_in N s f0 f1 d me k own A n c l w hk hm h ha hb ho _ rfl
    · rw [show rndA ⟨N, s, f0, f1, d⟩ me k l own = (0, tz, 1) from if_neg fun e => h (by have := e.2; rwa [hl] at this)]
      exact rround_long N s f0 f1 d me k own A n c w hk hm (by omega) hn
  · rw [show rndA x me k l own = (0, tz, 1) from if_neg fun e => hm e.1]
    exact rround_no x me k own A n c w hk hm
end Go.Proofs.Ytbfaebobainhjaa
