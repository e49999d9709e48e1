/-
  medium.Launch where it tells of no error. What is asked: what its head says.
-/
import Derived.Test.YtjmkhhmibkiijaaL
import Derived.Deep.Light
namespace Go.Proofs.Ytjmkhhmibkiijaa
open Go Go.RowKit

theorem bel_drewN' {B : Nat} {a w : World} (h : Below B a w) (n : Nat) : Below B a (w.drewN n) := bel_drewN h n
/-- A new list, and no error. -/
def RetLE (w : World) (n : Nat) (P : List Ar → Prop) (e : Ending) (w' : World) : Prop := ∃ A c l, e = .returned (.tuple #[.slice A n c, .int .i64 0]) ∧ P l ∧ Ow w' w.heap.size A n c l ∧ El w' w.heap.size l ∧ Below w.heap.size w w'
def lauAt (xs : List Ar) (x : Ar) (l : List Ar) (k : Nat) : Prop := ∀ i, i < k → ∃ A c, nth l i = { nth xs i with A := A, c := c, bad := (nth xs i).bad || meet x (nth xs i) }
def LauRel (w : World) (g base : Nat) (xs : List Ar) (x : Ar) (t6 t42 : Value) (wr : World) : Prop :=
  ∃ (k c : Nat) (A : Option Addr) (l : List Ar), t42 = .int .i64 (k : Int) ∧ k ≤ xs.length ∧ t6 = .slice A k c ∧ Ow wr base A k c l ∧ El wr base l ∧ VarA wr g { x with bad := bads xs x k } ∧ Below w.heap.size w wr ∧ base ≤ wr.heap.size ∧ lauAt xs x l k
theorem bads_zero (xs : List Ar) (x : Ar) : bads xs x 0 = x.bad := by simp [bads, anyB]
theorem bads_succ (xs : List Ar) (x : Ar) (k : Nat) : bads xs x (k + 1) = (bads xs x k || meet x (nth xs k)) := by simp [bads, anyB_succ, Bool.or_assoc]
theorem lauAt_next {xs : List Ar} {x y : Ar} {l : List Ar} {k : Nat} (h : lauAt xs x l k) (hl : l.length = k) (hy : ∃ A c, y = { nth xs k with A := A, c := c, bad := (nth xs k).bad || meet x (nth xs k) }) : lauAt xs x (l ++ [y]) (k + 1) := fun i hi => by
  by_cases e : i = k
  · subst e
    have := nth_app_r (l := l) (x := y)
    rw [hl] at this
    rw [this]; exact hy
  · rw [nth_app_l (by omega)]; exact h i (by omega)
theorem lau_end {xs : List Ar} {x : Ar} {l : List Ar} {A : Option Addr} {c : Nat} (h : lauAt xs x l xs.length) (hl : l.length = xs.length) : lauP xs x (l ++ [{ x with A := A, c := c, bad := bads xs x xs.length }]) :=
  ⟨fun i hi => by rw [nth_app_l (by omega)]; exact h i hi, A, c, by have := nth_app_r (l := l) (x := { x with A := A, c := c, bad := bads xs x xs.length }); rwa [hl] at this⟩
/-- Below B nothing but block g is another one. -/
def Kp (g B : Nat) (w w' : World) : Prop := ∀ q, q < B → q ≠ g → w'.heap[q]? = w.heap[q]?
theorem Kp.of {g B : Nat} {w w' : World} (h : Below B w w') : Kp g B w w' := fun q hq _ => h.block q hq
theorem Kp.oth {g B : Nat} {w w' w2 : World} (h : Kp g B w w') (ho : Oth g w' w2) : Kp g B w w2 := fun q hq hn => (ho q hn).trans (h q hq hn)
theorem Kp.ge {g B b : Nat} {w w' w2 : World} (h : Kp g B w w') (ho : Oth b w' w2) (hb : B ≤ b) : Kp g B w w2 := fun q hq hn => (ho q (by omega)).trans (h q hq hn)
theorem Ow.kp {w w' : World} {g base n c : Nat} {A : Option Addr} {l : List Ar} (h : Ow w base A n c l) (hk : Kp g w.heap.size w w') (hg : g < base) : Ow w' base A n c l := by
  refine ⟨h.1, ?_⟩
  rcases h.2 with h0 | ⟨q, cap, cur, hv, hq, hh, r⟩
  · exact .inl h0
  · exact .inr ⟨q, cap, cur, hv, hq, (hk q (Array.getElem?_eq_some_iff.1 hh).1 (by omega)).trans hh, r⟩
theorem Own.kp {w w' : World} {g base n c : Nat} {e : TypeId} {A : Option Addr} {l : List Value} (h : Own w base e A n c l) (hk : Kp g w.heap.size w w') (hg : g < base) : Own w' base e A n c l := by
  refine ⟨h.1, ?_⟩
  rcases h.2 with h0 | ⟨q, cap, cur, hv, hq, hh, r⟩
  · exact .inl h0
  · exact .inr ⟨q, cap, cur, hv, hq, (hk q (Array.getElem?_eq_some_iff.1 hh).1 (by omega)).trans hh, r⟩
theorem El.kp {w w' : World} {g base : Nat} {l : List Ar} (h : El w base l) (hk : Kp g w.heap.size w w') (hg : g < base) : El w' base l := fun y hy => (h y hy).kp hk hg
set_option maxRecDepth 100000 in
set_option maxHeartbeats 4000000 in
theorem launch_ok1 (A : Option Addr) (n c B : Nat) (xs : List Ar) (x : Ar) (w : World) (ha : RA w B A n xs) (hx : Row w B x.A x.n (bv x.b)) (hB : B ≤ w.heap.size) (hn : n < 256) (h1 : okA xs = true) (h2 : okA [x] = true) (hg : 0 < n ∧ (nth xs (n - 1)).id < x.id) :
    Calls Try.prog 15 #[.slice A n c, itv x] w (RetLE w (n + 1) (lauP xs x)) := by
  have HA := hid ha
  have HL := hid ha.1.1
  have HX := hid hx
  have HM := hid (okA_may h1)
  have HXN : Hid (x.n ≤ 64) := hid (may_n (by rw [← okA_one]; exact h2))
  have HK1 : Hid (∀ w', Below w.heap.size w w' → Calls Try.prog 17 #[.slice A n c] w' fun e w'' => e = .returned (.int .i64 (okE xs)) ∧ Below w'.heap.size w' w'') :=
    hid fun w' hb => check_any A n c B xs w' (ha.1.below (hb.mono hB)) (Nat.le_trans hB hb.size) (by omega)
  have HK2 : Hid (∀ w' : World, Calls Try.prog 17 #[.slice (some ⟨w'.heap.size, 0, none⟩) 1 1] (w'.alloc (.cells (enc x).toArray 25)) fun e w'' => e = .returned (.int .i64 (okE [x])) ∧ Below w'.heap.size w' w'') :=
    hid fun w' => (check_any _ 1 1 (w'.heap.size + 1) [x] _ (row_one w' x) (by simp) (by omega)).mono fun e w'' ⟨he, hb⟩ => ⟨he, ((Below.refl _ _).alloc (Nat.le_refl _) _).trans (hb.mono (by simp))⟩
  rw [okE_one h1] at HK1
  rw [okE_one h2] at HK2
  have hd256 : ((n : Int) == 256) = false := by simp; omega

  obtain ⟨hp0, hlt0⟩ := hg
  obtain ⟨j, hj⟩ : ∃ j, n = j + 1 := ⟨n - 1, by omega⟩
  obtain ⟨b, o, rfl, hb, hc⟩ := ha.1.all (by omega)
  rw [show n - 1 = j by omega] at hlt0
  have RL := hid (hc j (by omega))
  have i1 : (n : Int) - 1 = (j : Int) := by omega
  have i2 : IntKind.i64.wrap (j : Int) = (j : Int) := by rw [IntKind.wrap_i64]; omega
  have i3 : (j : Int) < (n : Int) := by omega
  have hd0 : decide (0 < n) = true := decide_eq_true hp0
  have hdq : decide (x.id ≤ (nth xs j).id) = false := decide_eq_false (by omega)
  obtain ⟨y, hy⟩ : ∃ y, nth xs j = y := ⟨_, rfl⟩
  rw [hy] at RL hdq
  clear hc h1 h2 ha hx hj hlt0 hy
  go_enter Try.func15, Try.ntmps15
  go_wp2_with (first
      | (go_at_call 17; refine (HK2.out w3).mono ?_; rintro e w4 ⟨rfl, b4⟩; have B4 : Hid (Below w.heap.size w w4) := hid (B3.out.trans (b4.mono B3.out.size)); have v4 := v3.below b4 v3.lt; have q0 := v4.c0; have ql : w4.cell? ⟨b, o + j * 8, none⟩ = some (.int .u64 y.id) := range_keep RL.out (Nat.lt_of_lt_of_le hb hB) B4.out 0 _ rfl; have V4 := hid v4; clear v3 v4)
      | (refine wpList_bs (x := x) rfl (.tmp 13) rfl rfl ?_)
      | (refine wpList_lda (x := x) rfl (.tmp 3) rfl rfl v3 ?_)
      | (go_at_call 17; refine (HK1.out w1 b1).mono ?_; rintro e w3 ⟨rfl, b3⟩; have B3 : Hid (Below w.heap.size w w3) := hid (b1.trans (b3.mono b1.size)); have v3 := v1.below b3 v1.lt)
      | (refine wpList_boxa (x := x) rfl (.tmp 1) rfl rfl ?_; intro w1 v1 b1 s1))
  refine wp_region_quiet_lit (by kernel_rfl) (by kernel_rfl) (WQ.out ?_)
  repeat (refine WQ.step (fun K hK => ?_); go_simp; refine hK _ ?_; clear hK K)
  refine WQ.nil ?_
  intro _ hw'
  obtain ⟨nq, hw''⟩ := hw'
  subst hw''
  clear i1 i2 i3 hd0 hdq RL q0 ql
  have B5 : Hid (Below w.heap.size w (w4.drewN nq)) := hid (bel_drewN B4.out nq)
  have V5 : Hid (VarA (w4.drewN nq) w.heap.size x) := V4
  generalize w4.drewN nq = w5 at *
  obtain ⟨g, hgg⟩ : ∃ g, g = w.heap.size := ⟨_, rfl⟩
  obtain ⟨base, hbb⟩ : ∃ base, base = w5.heap.size := ⟨_, rfl⟩
  have hgb : g < base := by rw [hgg, hbb]; exact V5.out.lt
  have hwg : w.heap.size ≤ g := by omega
  have hwb : w.heap.size ≤ base := by omega
  rw [← hgg] at V5 ⊢
  have HGG := hid hgg
  have HB5 := hid hbb
  clear hgg hbb V4 B4 HK1 HK2
  go_wp2_with (refine wpList_mk0 rfl (.const (.int .i64 0)) (.tmp 38) rfl _ (n + 1) rfl rfl (by first | omega | (push_cast; omega)) (by omega) base (by have := HB5.out; omega) ?_; intro w6 own6 b6)
  have B6 : Hid (Below w.heap.size w w6) := hid (B5.out.trans (b6.mono B5.out.size))
  have V6 : Hid (VarA w6 g x) := hid (V5.out.below b6 V5.out.lt)
  have W6 := hid own6
  have HS6 : Hid (base ≤ w6.heap.size) := hid (by have := b6.size; have := HB5.out; omega)
  clear own6 b6 V5 B5
  go_loopw [6, 42] (LauRel w g base xs x) (fun _ t _ => n - (intOf t).toNat)
  case atStart => exact ⟨0, _, _, [], rfl, by omega, rfl, W6.out, El.nil _ _, by rw [bads_zero]; exact V6.out, B6.out, HS6.out, fun i h => by omega⟩
  case round =>
    obtain ⟨k, c1, A1, l, rfl, hk, rfl, own, el, vx, hbel, hbase, hat⟩ := hrel
    have HB := hid hbel
    have HO := hid hat
    have HK := hid hk
    have HW := hid own
    have HE := hid el
    have HV := hid vx
    have HBB := hid hbase
    have HLL := hid own.len
    clear hbel hat hk own el vx hbase
    by_cases hlt : k < n
    · have HR := hid (RA.below HA.out (HB.out.mono hB))
      obtain ⟨b2, o2, hA2, hb2, hc⟩ := HR.out.1.all (by omega)
      injection hA2 with hA2; injection hA2 with e1 e2; subst e1; subst e2
      have r1 := hid (hc k hlt)
      have hkn : (k : Int) < (n : Int) := by omega
      have hmem : nth xs k ∈ xs := nth_mem (by rw [HL.out]; exact hlt)
      have HN : Hid ((nth xs k).n ≤ 64) := hid (may_n (HM.out _ hmem))
      have HRX : Hid (Row wr B (nth xs k).A (nth xs k).n (bv (nth xs k).b)) := hid (HR.out.2 _ hmem)
      have HBS := hid (bads_succ xs x k)
      obtain ⟨y, hy⟩ : ∃ y, nth xs k = y := ⟨_, rfl⟩
      have HYY := hid hy
      rw [hy] at r1 HN HRX HBS
      have HQ : Hid (∀ (A : Option Addr) (c : Nat), lauAt xs x (l ++ [{ y with A := A, c := c, bad := y.bad || meet x y }]) (k + 1)) := hid fun A c => lauAt_next HO.out HLL.out ⟨A, c, by rw [HYY.out]⟩
      have HME : Hid (∀ X A c w, Calls Try.prog 16 #[itv { x with bad := X }, itv { y with A := A, c := c }] w fun e w' => e = .returned (.bool (meet x y)) ∧ Below w.heap.size w w') := hid (fun X A c w => meet_any { x with bad := X } { y with A := A, c := c } w)
      have hBr : B ≤ wr.heap.size := Nat.le_trans hB HB.out.size
      have hgr := HV.out.lt
      generalize bads xs x k = X at *

      generalize meet x y = M at *
      clear hc hy hmem
      go_wp2_with (first
        | (at_builtin; refine wpList_push rfl (.tmp 53) (.tmp 55) rfl (base := base) (l := l) (x := { y with A := A4, c := c4, bad := true }) rfl (HW.out.kp K8.out hgb) rfl (by omega) (Nat.le_trans HBB.out S8.out) ?_; intro A9 c9 w9 own9 b9 k9)
        | (refine wpList_bs (x := { y with A := A4, c := c4, bad := true }) rfl (.tmp 54) rfl rfl ?_)
        | (refine wpList_lda (x := { y with A := A4, c := c4, bad := true }) rfl (.tmp 8) rfl rfl v8 ?_)
        | (refine wpList_sf { y with A := A4, c := c4, bad := true } 6 (.bool true) rfl 4 (.tmp 52) (.const (.bool true)) rfl rfl rfl v7 rfl (by omega) rfl rfl size4 ?_; intro w8 v8 b8 o8 s8; have x8 := x7.other o8 (by omega); have new8 := new7.other (w' := w8) (fun q hq => o8 q (by have := S3.out; omega)); have K8 : Hid (Kp g wr.heap.size wr w8) := hid (K7.out.ge o8 (Nat.le_refl _)); have S8 : Hid (wr.heap.size ≤ w8.heap.size) := hid (Nat.le_trans S7.out b8.size); have B8 : Hid (Below w.heap.size w w8) := hid (B7.out.trans (b8.mono HB.out.size)))
        | (refine wpList_sf { x with bad := true } 6 (.bool true) rfl 4 (.tmp 51) (.const (.bool true)) rfl rfl rfl x6 rfl (by omega) rfl rfl size4 ?_; intro w7 x7 b7 o7 s7; have v7 := v6.other o7 (by omega); have new7 := new6.other (w' := w7) (fun q hq => o7 q (by have := S3.out; omega)); have K7 : Hid (Kp g wr.heap.size wr w7) := hid (Kp.oth (Kp.of B6.out) o7); have S7 : Hid (wr.heap.size ≤ w7.heap.size) := hid (Nat.le_trans B6.out.size b7.size); have B7 : Hid (Below w.heap.size w w7) := hid ((HB.out.trans (B6.out.mono HB.out.size)).trans (b7.mono hwg)))
        | (at_builtin; refine wpList_push rfl (.tmp 53) (.tmp 55) rfl (base := base) (l := l) (x := { y with A := A4, c := c4 }) rfl (HW.out.below B6.out) rfl (by omega) (Nat.le_trans HBB.out B6.out.size) ?_; intro A9 c9 w9 own9 b9 k9)
        | (refine wpList_bs (x := { y with A := A4, c := c4 }) rfl (.tmp 54) rfl rfl ?_)
        | (refine wpList_lda (x := { y with A := A4, c := c4 }) rfl (.tmp 8) rfl rfl v6 ?_)
        | (go_at_call 16; refine (HME.out X A4 c4 w5).mono ?_; rintro e w6 ⟨rfl, b6⟩; have x6 := x5.below b6 x5.lt; have v6 := v5.below b6 v5.lt; have new6 := new5.below b6; have B6 : Hid (Below wr.heap.size wr w6) := hid (B5.out.trans (b6.mono B5.out.size)); clear v5 x5; cases M)
        | (refine wpList_lda (x := { x with bad := X }) rfl (.tmp 3) rfl rfl x5 ?_)
        | (refine wpList_lda (x := { y with A := A4, c := c4 }) rfl (.tmp 8) rfl rfl v5 ?_)
        | (refine wpList_sva (x := { y with A := A4, c := c4 }) rfl (.tmp 8) (.tmp 47) rfl rfl rfl v4 ?_; intro w5 v5 b5 o5 s5; have new5 := new4.other (w' := w5) (fun q hq => o5 q (by have := S3.out; omega)); have B5 : Hid (Below wr.heap.size wr w5) := hid (B4.out.trans b5); have x5 := HV.out.below B5.out HV.out.lt)
        | (go_at_call 29; refine (own_any y B w3 (HRX.out.below (B3.out.mono hBr)) (Nat.le_trans hBr B3.out.size) (by have := HN.out; omega)).mono ?_; rintro e w4 ⟨A4, c4, rfl, new4, b4⟩; have v4 := r3.below b4 r3.lt; have B4 : Hid (Below wr.heap.size wr w4) := hid (B3.out.trans (b4.mono B3.out.size)))
        | (refine wpList_lda (x := y) rfl (.tmp 8) rfl rfl r3 ?_)
        | (refine wpList_sva (x := y) rfl (.tmp 8) (.tmp 45) rfl rfl rfl r2 ?_; intro w3 r3 b3 o3 s3; have B3 : Hid (Below wr.heap.size wr w3) := hid (b2.trans b3); have S3 : Hid (wr.heap.size < w3.heap.size) := hid r3.lt)
        | (refine wpList_ala rfl rfl ?_; intro w2 r2 b2 s2)
        | (refine wpList_lde (x := y) rfl (.tmp 44) rfl rfl r1.out ?_))
      · go_roundw
        case rel =>
          have h1 := B6.out.size
          have h2 := HBB.out
          have hq := HQ.out A4 c4
          rw [Bool.or_false] at hq
          refine ⟨k + 1, c9, A9, _, by go_num, by rw [HL.out]; omega, rfl, own9, ?_, ?_, (HB.out.trans (B6.out.mono HB.out.size)).trans (b9.mono hwb), Nat.le_trans h2 (Nat.le_trans h1 b9.size), hq⟩
          · exact El.app (fun z hz => k9 _ _ _ _ _ ((HE.out.below B6.out) z hz)) (El.one (k9 _ _ _ _ _ (new6.base_le (Nat.le_trans h2 (Nat.le_of_lt S3.out)))))
          · have := x6.below b9 hgb
            rw [HBS.out, Bool.or_false]; exact this
        case measure => simp [intOf]; omega
      · go_roundw
        case rel =>
          have h2 := HBB.out
          have hq := HQ.out A4 c4
          rw [Bool.or_true] at hq
          refine ⟨k + 1, c9, A9, _, by go_num, by rw [HL.out]; omega, rfl, own9, ?_, ?_, B8.out.trans (b9.mono hwb), Nat.le_trans h2 (Nat.le_trans S8.out b9.size), hq⟩
          · exact El.app (fun z hz => k9 _ _ _ _ _ ((HE.out.kp K8.out hgb) z hz)) (El.one (k9 _ _ _ _ _ (new8.base_le (Nat.le_trans h2 (Nat.le_of_lt S3.out)))))
          · have := x8.below b9 hgb
            rw [HBS.out, Bool.or_true]; exact this
        case measure => simp [intOf]; omega
    · have hkk : k = n := by have := HK.out; rw [HL.out] at this; omega
      subst hkk
      have HRX : Hid (Row wr B x.A x.n (bv x.b)) := hid (HX.out.below (HB.out.mono hB))
      have HLE : Hid (∀ (A : Option Addr) (c : Nat), lauP xs x (l ++ [{ x with A := A, c := c, bad := bads xs x k }])) := hid fun A c => by
        have h1 := HO.out
        rw [← HL.out] at h1 ⊢
        exact lau_end h1 (by rw [HLL.out, HL.out])
      generalize bads xs x k = X at *
      go_wp2_with (first
        | (at_builtin; refine wpList_push rfl (.tmp 58) (.tmp 61) rfl (base := base) (l := l) (x := { x with A := A4, c := c4, bad := X }) rfl (HW.out.below b4) rfl (by omega) (Nat.le_trans HBB.out b4.size) ?_; intro A5 c5 w5 own5 b5 k5)
        | (refine wpList_bs (x := { x with A := A4, c := c4, bad := X }) rfl (.tmp 60) rfl rfl ?_)
        | (go_at_call 29; refine (own_any { x with bad := X } B wr HRX.out (Nat.le_trans hB HB.out.size) (by have := HXN.out; show x.n ≤ 10000000; omega)).mono ?_; rintro e w4 ⟨A4, c4, rfl, new4, b4⟩)
        | (refine wpList_lda (x := { x with bad := X }) rfl (.tmp 3) rfl rfl HV.out ?_))
      go_ret2
      exact ⟨A5, c5, _, rfl, HLE.out A4 c4, own5.base_le hwb, (El.app (fun z hz => k5 _ _ _ _ _ ((HE.out.below b4) z hz)) (El.one (k5 _ _ _ _ _ (new4.base_le HBB.out)))).base_le hwb, (HB.out.trans (b4.mono HB.out.size)).trans (b5.mono hwb)⟩
end Go.Proofs.Ytjmkhhmibkiijaa
