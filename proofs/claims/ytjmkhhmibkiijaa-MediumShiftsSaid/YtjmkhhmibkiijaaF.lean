/-
  The document's Few and Copy: what they tell. What is asked: at most 100,000 things.
-/
import Derived.Test.YtjmkhhmibkiijaaB
namespace Go.Proofs.Ytjmkhhmibkiijaa
open Go Go.RowKit

def fewB (xs : List Ar) : Bool := xs.all (fun x => decide (x.n ≤ 200)) && decide (xs.length ≤ 300)
def FewRel (w : World) (xs : List Ar) (t : Value) (wr : World) : Prop := ∃ k : Nat, t = .int .i64 (k : Int) ∧ k ≤ xs.length ∧ Below w.heap.size w wr ∧ ∀ i, i < k → (nth xs i).n ≤ 200
theorem few_all {xs : List Ar} (h : ∀ i, i < xs.length → (nth xs i).n ≤ 200) : xs.all (fun x => decide (x.n ≤ 200)) = true := by
  rw [List.all_eq_true]
  intro x hx
  obtain ⟨i, hi, rfl⟩ := List.getElem_of_mem hx
  have := h i hi
  rw [nth_of (List.getElem?_eq_getElem hi)] at this
  simpa using this
theorem few_no {xs : List Ar} {i : Nat} (hi : i < xs.length) (h : 200 < (nth xs i).n) : fewB xs = false := by
  have : xs.all (fun x => decide (x.n ≤ 200)) = false := by
    rw [List.all_eq_false]; exact ⟨nth xs i, nth_mem hi, by simp; omega⟩
  simp [fewB, this]
set_option maxRecDepth 100000 in
set_option maxHeartbeats 2000000 in
theorem few_any (A : Option Addr) (n c B : Nat) (xs : List Ar) (w : World) (ha : Rw w B A n xs) (hB : B ≤ w.heap.size) (hn : n ≤ 9223372036854775807) :
    Calls Try.prog 14 #[.slice A n c] w fun e w' => e = .returned (.bool (fewB xs)) ∧ Below w.heap.size w w' := by
  have HA := hid ha
  have HL := hid ha.1
  clear ha
  go_enter Try.func14, Try.ntmps14
  go_wp2
  go_loopw [7] (FewRel w xs) (fun t _ => n - (intOf t).toNat)
  case atStart => exact ⟨0, rfl, by omega, Below.refl _ _, fun i h => by omega⟩
  case round =>
    obtain ⟨k, rfl, hk, hbel, hok⟩ := hrel
    have HB := hid hbel
    have HO := hid hok
    have HK := hid hk
    clear hbel hok hk
    by_cases hlt : k < n
    · have HR : Hid (Rw wr B A n xs) := hid (HA.out.below (HB.out.mono hB))
      obtain ⟨b, o, rfl, hb, hc⟩ := HR.out.all (by omega)
      have r1 := hid (hc k hlt)
      have hkn : (k : Int) < (n : Int) := by omega
      have HN : Hid (200 < (nth xs k).n → fewB xs = false) := hid fun h => few_no (by rw [HL.out]; exact hlt) h
      have HY : Hid ((nth xs k).n ≤ 200 → ∀ i, i < k + 1 → (nth xs i).n ≤ 200) := hid fun h i hi => by
        by_cases e : i = k
        · subst e; exact h
        · exact HO.out i (by omega)
      clear hc
      generalize nth xs k = x at *
      by_cases h2 : x.n ≤ 200
      · have hd : decide ((200 : Int) < (x.n : Int)) = false := decide_eq_false (by omega)
        have HH := hid h2
        clear h2
        go_wp2_with (first
          | (refine wpList_lde (x := x) rfl (.tmp 9) rfl rfl r1.out ?_)
          | (refine wpList_ala rfl rfl ?_; intro w2 r2 b2 s2)
          | (refine wpList_sva (x := x) rfl (.tmp 4) (.tmp 10) rfl rfl rfl r2 ?_; intro w3 r3 b3 o3 _; have c5 := r3.c5; have B3 : Hid (Below wr.heap.size wr w3) := hid (b2.trans b3); clear r3 b3 o3 b2))
        go_roundw
        case rel => exact ⟨k + 1, by go_num, by rw [HL.out]; omega, HB.out.trans (B3.out.mono HB.out.size), HY.out HH.out⟩
        case measure => simp [intOf]; omega
      · have hd : decide ((200 : Int) < (x.n : Int)) = true := decide_eq_true (by omega)
        have HN' := hid (HN.out (by omega))
        clear h2 HN
        go_wp2_with (first
          | (refine wpList_lde (x := x) rfl (.tmp 9) rfl rfl r1.out ?_)
          | (refine wpList_ala rfl rfl ?_; intro w2 r2 b2 s2)
          | (refine wpList_sva (x := x) rfl (.tmp 4) (.tmp 10) rfl rfl rfl r2 ?_; intro w3 r3 b3 o3 _; have c5 := r3.c5; have B3 : Hid (Below wr.heap.size wr w3) := hid (b2.trans b3); clear r3 b3 o3 b2))
        go_ret
        exact ⟨ret_bool HN'.out.symm, HB.out.trans (B3.out.mono HB.out.size)⟩
    · have HC : Hid (fewB xs = decide ((n : Int) ≤ 300)) := hid (by
        unfold fewB
        rw [few_all (fun i hi => HO.out i (by have := HK.out; rw [HL.out] at hi this; omega)), Bool.true_and, HL.out]
        by_cases h : n ≤ 300
        · rw [decide_eq_true h, decide_eq_true (by omega)]
        · rw [decide_eq_false h, decide_eq_false (by omega)])
      go_wp2
      all_goals
        go_ret
        exact ⟨ret_bool (by rw [HC.out]), HB.out⟩

/-- As they are, their bytes elsewhere. -/
def sim (xs ys : List Ar) : Prop := xs.length = ys.length ∧ ∀ i, i < xs.length → ∃ A c, nth ys i = { nth xs i with A := A, c := c }
theorem sim.refl (xs : List Ar) : sim xs xs := ⟨rfl, fun _ _ => ⟨_, _, rfl⟩⟩
theorem nth_app_l {l m : List Ar} {i : Nat} (h : i < l.length) : nth (l ++ m) i = nth l i := by simp [nth, List.getD, List.getElem?_append_left h]
theorem nth_app_r {l : List Ar} {x : Ar} : nth (l ++ [x]) l.length = x := by simp [nth, List.getD]
def CopyRel (w : World) (xs : List Ar) (t3 t8 : Value) (wr : World) : Prop :=
  ∃ (k c : Nat) (A : Option Addr) (l : List Ar), t8 = .int .i64 (k : Int) ∧ k ≤ xs.length ∧ t3 = .slice A k c ∧ Ow wr w.heap.size A k c l ∧ El wr w.heap.size l ∧ Below w.heap.size w wr ∧ ∀ i, i < k → ∃ A c, nth l i = { nth xs i with A := A, c := c }
/-- A new list. -/
def RetL (w : World) (n : Nat) (P : List Ar → Prop) (e : Ending) (w' : World) : Prop := ∃ A c l, e = .returned (.slice A n c) ∧ P l ∧ Ow w' w.heap.size A n c l ∧ El w' w.heap.size l ∧ Below w.heap.size w w'
set_option maxRecDepth 100000 in
set_option maxHeartbeats 2000000 in
theorem copy_any (A : Option Addr) (n c B : Nat) (xs : List Ar) (w : World) (ha : RA w B A n xs) (hB : B ≤ w.heap.size) (hn : n ≤ 1000) (hs : ∀ x ∈ xs, x.n ≤ 1000) :
    Calls Try.prog 21 #[.slice A n c] w (RetL w n (sim xs)) := by
  have HA := hid ha
  have HL := hid ha.1.1
  have HS := hid hs
  clear ha hs
  go_enter Try.func21, Try.ntmps21
  go_wp2
  go_loopw [3, 8] (CopyRel w xs) (fun _ t _ => n - (intOf t).toNat)
  case atStart => exact ⟨0, 0, none, [], rfl, by omega, rfl, Ow.nil _ _, El.nil _ _, Below.refl _ _, fun i h => by omega⟩
  case round =>
    obtain ⟨k, c1, A1, l, rfl, hk, rfl, own, el, hbel, hok⟩ := hrel
    have HB := hid hbel
    have HO := hid hok
    have HK := hid hk
    have HW := hid own
    have HE := hid el
    have HLL := hid own.len
    clear hbel hok hk own el
    by_cases hlt : k < n
    · have HR : Hid (RA wr B A n xs) := hid (HA.out.below (HB.out.mono hB))
      obtain ⟨b, o, rfl, hb, hc⟩ := HR.out.1.all (by omega)
      have r1 := hid (hc k hlt)
      have hkn : (k : Int) < (n : Int) := by omega
      have HX : Hid ((nth xs k).n ≤ 1000) := hid (HS.out _ (nth_mem (by rw [HL.out]; exact hlt)))
      have HRX : Hid (Row wr B (nth xs k).A (nth xs k).n (bv (nth xs k).b)) := hid (HR.out.2 _ (nth_mem (by rw [HL.out]; exact hlt)))
      obtain ⟨x, hx⟩ : ∃ x, nth xs k = x := ⟨_, rfl⟩
      have HXX := hid hx
      rw [hx] at r1 HX HRX
      clear hc hx
      go_wp2_with (first
        | (refine wpList_lde (x := x) rfl (.tmp 10) rfl rfl r1.out ?_)
        | (refine wpList_ala rfl rfl ?_; intro w2 r2 b2 s2)
        | (refine wpList_sva (x := x) rfl (.tmp 5) (.tmp 11) rfl rfl rfl r2 ?_; intro w3 r3 b3 o3 s3; have c5 := r3.c5; have B3 : Hid (Below wr.heap.size wr w3) := hid (b2.trans b3); have S3 : Hid (wr.heap.size < w3.heap.size) := hid r3.lt; have HR3 : Hid (Row w3 B x.A x.n (bv x.b)) := hid (HRX.out.below (B3.out.mono (Nat.le_trans hB HB.out.size))); have V3 := hid r3; clear r3 b3 o3 b2)
        | (at_builtin; refine wpList_app _ rfl (.const (.slice none 0 0)) (.tmp 13) 23 rfl w3.heap.size 5 (.int .u8 0) 1 Try.underlying23 info5 rfl none 0 0 [] rfl (Own.nil _ _ _) B x.A x.n x.c (bv x.b) rfl HR3.out (bv_one _) (by have := HX.out; omega) (by omega) (Nat.le_refl _) ?_; intro A4 c4 w4 own4 b4; rw [Nat.zero_add, List.nil_append] at own4; rw [Nat.zero_add]; have v4 := V3.out.below b4 V3.out.lt; have B4 : Hid (Below wr.heap.size wr w4) := hid (B3.out.trans (b4.mono B3.out.size)); clear c5)
        | (refine wpList_sf { x with A := A4, c := c4 } 5 (.slice A4 x.n c4) rfl 23 (.tmp 15) (.tmp 14) rfl rfl rfl v4 rfl (by omega) rfl rfl size23 ?_; intro w5 v5 b5 o5 s5; have B5 : Hid (Below wr.heap.size wr w5) := hid (B4.out.trans b5); have own5 := own4.other (w' := w5) (fun g hg => o5 g (by have := S3.out; omega)))
        | (refine wpList_lda (x := { x with A := A4, c := c4 }) rfl (.tmp 5) rfl rfl v5 ?_)
        | (refine wpList_bs (x := { x with A := A4, c := c4 }) rfl (.tmp 17) rfl rfl ?_)
        | (at_builtin; refine wpList_push rfl (.tmp 16) (.tmp 18) rfl (base := w.heap.size) (l := l) (x := { x with A := A4, c := c4 }) rfl (HW.out.below B5.out) rfl (by omega) (Nat.le_trans HB.out.size B5.out.size) ?_; intro A6 c6 w6 own6 b6 k6))
      go_roundw
      case rel =>
        have hb5 : w.heap.size ≤ w3.heap.size := Nat.le_trans HB.out.size B3.out.size
        refine ⟨k + 1, c6, A6, _, by go_num, by rw [HL.out]; omega, rfl, own6, ?_, (HB.out.trans (B5.out.mono HB.out.size)).trans b6, fun i hi => ?_⟩
        · exact El.app (fun y hy => k6 _ _ _ _ _ ((HE.out.below B5.out) y hy)) (El.one (k6 _ _ _ _ _ (own5.base_le hb5)))
        · by_cases e : i = k
          · subst e
            refine ⟨A4, c4, ?_⟩
            rw [HXX.out]
            have := nth_app_r (l := l) (x := { x with A := A4, c := c4 })
            rwa [HLL.out] at this
          · obtain ⟨A7, c7, h7⟩ := HO.out i (by omega)
            exact ⟨A7, c7, by rw [nth_app_l (by rw [HLL.out]; omega)]; exact h7⟩
      case measure => simp [intOf]; omega
    · have hkk : k = n := by have := HK.out; rw [HL.out] at this; omega
      subst hkk
      go_wp2
      go_ret
      exact ⟨A1, c1, l, rfl, ⟨by rw [HL.out, HLL.out], fun i hi => HO.out i (by rw [HL.out] at hi; exact hi)⟩, HW.out, HE.out, HB.out⟩
end Go.Proofs.Ytjmkhhmibkiijaa
