/-
  medium.Heard: what it tells of things that may be. What is asked: what each head says.
-/
import Derived.Test.YtjmkhhmibkiijaaDL
import Derived.Test.YtjmkhhmibkiijaaK
import Derived.Test.YtjmkhhmibkiijaaM0
namespace Go.Proofs.Ytjmkhhmibkiijaa
open Go Go.RowKit

/-- What is there then. -/
def heardP (xs : List Ar) (k m : Nat) (l : List Ar) : Prop :=
  if (nth xs k).lf = 1 then m = xs.length - 1 ∧ ∀ j, j < m → ∃ A c, nth l j = { nth xs (if j < k then j else j + 1) with A := A, c := c }
  else m = xs.length ∧ ∀ j, j < m → ∃ A c, nth l j = { nth xs j with A := A, c := c, lf := if j = k then (nth xs k).lf - 1 else (nth xs j).lf }
def RetH (w : World) (xs : List Ar) (k : Nat) (e : Ending) (w' : World) : Prop :=
  ∃ A m c l Av cv, e = .returned (.tuple #[.slice A m c, itv { nth xs k with A := Av, c := cv }, .int .i64 0]) ∧ heardP xs k m l ∧ RA w' w'.heap.size A m l ∧ Below w.heap.size w w'
/-- The first i are as they were, their bytes anew. -/
def likeTo (xs l : List Ar) (i : Nat) : Prop := l.length = xs.length ∧ ∀ j, j < i → ∃ A c, nth l j = { nth xs j with A := A, c := c }
theorem likeTo_next {xs l : List Ar} {i : Nat} {y : Ar} (h : likeTo xs l i) (hi : i < xs.length) (hy : ∃ A c, y = { nth xs i with A := A, c := c }) : likeTo xs (l.set i y) (i + 1) := by
  refine ⟨by rw [List.length_set]; exact h.1, fun j hj => ?_⟩
  by_cases e : j = i
  · subst e
    rw [show nth (l.set j y) j = y from nth_of (by rw [List.getElem?_set_self (by rw [h.1]; exact hi)])]
    exact hy
  · rw [show nth (l.set i y) j = nth l j from nth_of (by rw [List.getElem?_set_ne (by omega)]; exact nth_get (by rw [h.1]; omega))]
    exact h.2 j (by omega)
theorem El.set2 {w : World} {base : Nat} {l : List Ar} (h : El w base l) {k : Nat} {y : Ar} (hy : Own w base 5 y.A y.n y.c (bv y.b)) : El w base (l.set k y) := by
  intro z hz
  rcases List.mem_or_eq_of_mem_set hz with hz | rfl
  · exact h z hz
  · exact hy
theorem El.sub {w : World} {base : Nat} {l m : List Ar} (h : El w base l) (hm : ∀ x ∈ m, x ∈ l) : El w base m := fun x hx => h x (hm x hx)
theorem without_sub {l : List Ar} {k : Nat} : ∀ x ∈ without l k, x ∈ l := fun x hx => by
  unfold without at hx
  rcases List.mem_append.1 hx with h | h
  · exact List.mem_of_mem_take h
  · exact List.mem_of_mem_drop h
theorem Rw.blk {w w' : World} {B B' g o n : Nat} {xs : List Ar} (h : Rw w B (some ⟨g, o, none⟩) n xs) (hb : g < B') (he : w'.heap[g]? = w.heap[g]?) : Rw w' B' (some ⟨g, o, none⟩) n xs :=
  ⟨h.1, fun hn => by
    obtain ⟨b, o', e, _, hc⟩ := h.2 hn
    injection e with e; injection e with e1 e2; subst e1; subst e2
    exact ⟨g, o, rfl, hb, fun j u hu => (World.cell?_of_block (a := ⟨g, o + j, none⟩) he).trans (hc j u hu)⟩⟩
def HeRel (w : World) (base g5 : Nat) (A : Option Addr) (n c : Nat) (xs : List Ar) (t : Value) (wr : World) : Prop :=
  ∃ (i : Nat) (l : List Ar), t = .int .i64 (i : Int) ∧ i ≤ n ∧ Ow wr base A n c l ∧ El wr base l ∧ likeTo xs l i ∧ VarA wr g5 az ∧ Below w.heap.size w wr ∧ base ≤ wr.heap.size
section
variable (A : Option Addr) (n c B : Nat) (xs : List Ar) (w : World) (I : Int)
set_option maxRecDepth 100000 in
set_option maxHeartbeats 2000000 in
theorem heard_none (ha : Rw w B A n xs) (hB : B ≤ w.heap.size) (hok : okA xs = true) (hf : ∀ i, i < n → (nth xs i).id ≠ I) :
    Calls Try.prog 18 #[.slice A n c, .int .u64 I] w fun e w' => e = .returned (.tuple #[.slice none 0 0, itv az, .int .i64 8]) ∧ Below w.heap.size w w' := by
  have hn : n ≤ 100000 := by have := okA_len hok; rw [ha.1] at this; omega
  have HP : Hid (∀ w1, Below w.heap.size w w1 → Calls Try.prog 32 #[.slice A n c, .int .u64 I] w1 fun e w' => e = .returned (.int .i64 (-1)) ∧ Below w1.heap.size w1 w') := hid fun w1 hb => place_no A n c B I xs w1 (ha.below (hb.mono hB)) (Nat.le_trans hB hb.size) hn hf
  have HK : Hid (∀ w1, Below w.heap.size w w1 → Calls Try.prog 17 #[.slice A n c] w1 fun e w' => e = .returned (.int .i64 0) ∧ Below w1.heap.size w1 w') := hid fun w1 hb => by
    have := check_any A n c B xs w1 (ha.below (hb.mono hB)) (Nat.le_trans hB hb.size) hn
    rwa [okE_one hok] at this
  clear ha hf hok
  go_enter Try.func18, Try.ntmps18
  go_wp2_with (first
    | (refine wpList_sva (x := az) rfl (.tmp 5) (.tmp 23) rfl rfl rfl r4 ?_; intro w5 r5 b5 o5 s5; have B5 : Hid (Below w.heap.size w w5) := hid (B4.out.trans b5))
    | (go_at_call 32; refine (HP.out w3 B3.out).mono ?_; rintro e w4 ⟨rfl, b4⟩; have r4 := r3.below b4 r3.lt; have B4 : Hid (Below w.heap.size w w4) := hid (B3.out.trans (b4.mono B3.out.size)))
    | (go_at_call 17; refine (HK.out w2 b2).mono ?_; rintro e w3 ⟨rfl, b3⟩; have r3 := r2.below b3 r2.lt; have B3 : Hid (Below w.heap.size w w3) := hid (b2.trans (b3.mono b2.size)))
    | (refine wpList_ala rfl rfl ?_; intro w2 r2 b2 s2))
  refine bodyPost_ret (w := w5) (results_1a1 Try.results18 _ rfl r5) rfl ?_
  exact ⟨rfl, B5.out⟩
set_option maxRecDepth 100000 in
set_option maxHeartbeats 4000000 in
theorem heard_yes (k : Nat) (ha : RA w B A n xs) (hB : B ≤ w.heap.size) (hok : okA xs = true) (hk : k < n) (he : (nth xs k).id = I) (hf : ∀ i, i < k → (nth xs i).id ≠ I) :
    Calls Try.prog 18 #[.slice A n c, .int .u64 I] w (RetH w xs k) := by
  have HA := hid ha
  have HL := hid ha.1.1
  have hn : n ≤ 256 := by have := okA_len hok; rw [ha.1.1] at this; omega
  have HP : Hid (∀ w1, Below w.heap.size w w1 → Calls Try.prog 32 #[.slice A n c, .int .u64 I] w1 fun e w' => e = .returned (.int .i64 (k : Int)) ∧ Below w1.heap.size w1 w') := hid fun w1 hb => place_yes A n c B k I xs w1 (HA.out.1.below (hb.mono hB)) (Nat.le_trans hB hb.size) hk (by omega) he hf
  have HK : Hid (∀ w1, Below w.heap.size w w1 → Calls Try.prog 17 #[.slice A n c] w1 fun e w' => e = .returned (.int .i64 0) ∧ Below w1.heap.size w1 w') := hid fun w1 hb => by
    have := check_any A n c B xs w1 (HA.out.1.below (hb.mono hB)) (Nat.le_trans hB hb.size) (by omega)
    rwa [okE_one hok] at this
  have HMN : Hid (∀ i, i < n → (nth xs i).n ≤ 64) := hid fun i hi => may_n (okA_may hok _ (nth_mem (by rw [HL.out]; exact hi)))
  have hlf : 1 ≤ (nth xs k).lf ∧ (nth xs k).lf ≤ 16 := by
    have := okA_may hok _ (nth_mem (l := xs) (k := k) (by rw [HL.out]; exact hk))
    unfold mayA at this; simp at this; omega
  have HLF := hid hlf
  clear ha hf hok he hlf
  obtain ⟨b, o, rfl, hb, _⟩ := HA.out.1.all (by omega)
  go_enter Try.func18, Try.ntmps18
  go_wp2_with (first
    | (refine wpList_mk rfl (.tmp 25) (.tmp 25) rfl (n : Int) n rfl rfl rfl (by omega) w4.heap.size (Nat.le_refl _) ?_; intro w5 own5 b5)
    | (go_at_call 32; refine (HP.out w3 B3.out).mono ?_; rintro e w4 ⟨rfl, b4⟩; have r4 := r3.below b4 r3.lt; have B4 : Hid (Below w.heap.size w w4) := hid (B3.out.trans (b4.mono B3.out.size)))
    | (go_at_call 17; refine (HK.out w2 b2).mono ?_; rintro e w3 ⟨rfl, b3⟩; have r3 := r2.below b3 r2.lt; have B3 : Hid (Below w.heap.size w w3) := hid (b2.trans (b3.mono b2.size)))
    | (refine wpList_ala rfl rfl ?_; intro w2 r2 b2 s2))
  obtain ⟨base, hbase⟩ : ∃ base, base = w4.heap.size := ⟨_, rfl⟩
  have h5b : w.heap.size < base := by rw [hbase]; exact r4.lt
  rw [← hbase] at own5 ⊢
  have HOW := hid own5
  have HEL : Hid (El w5 base (List.replicate n az)) := hid fun x hx => by
    obtain rfl := List.eq_of_mem_replicate hx
    exact Own.nil _ _ _
  have B5 : Hid (Below w.heap.size w w5) := hid (B4.out.trans (b5.mono B4.out.size))
  have V5 := hid (r4.below b5 r4.lt)
  have HBS : Hid (base ≤ w5.heap.size) := hid (by rw [hbase]; exact b5.size)
  clear own5 b5 hbase r4 r3 r2 b4 b3 b2 B4 B3 HP HK s2
  have hwb : w.heap.size ≤ base := by omega
  go_loopw [29] (HeRel w base w.heap.size (some ⟨base, 0, none⟩) n n xs) (fun t _ => n - (intOf t).toNat)
  case atStart => exact ⟨0, _, rfl, by omega, HOW.out, HEL.out, ⟨by rw [HL.out]; simp, fun j hj => by omega⟩, V5.out, B5.out, HBS.out⟩
  case round =>
    obtain ⟨i, l, rfl, hi, own, el, hlk, vx, hbel, hbsz⟩ := hrel
    have HW := hid own
    have HE := hid el
    have HLK := hid hlk
    have HV := hid vx
    have HB := hid hbel
    have HZ := hid hbsz
    have HLL := hid own.len
    clear own el hlk vx hbel hbsz HOW HEL V5 B5 HBS
    by_cases hlt : i < n
    · have HR := hid (HA.out.below (HB.out.mono hB))
      obtain ⟨b', o', hA2, _, hc⟩ := HR.out.1.all (by omega)
      injection hA2 with hA2; injection hA2 with e1 e2; subst e1; subst e2
      have r1 := hid (hc i hlt)
      have hin : (i : Int) < (n : Int) := by omega
      have hmem : nth xs i ∈ xs := nth_mem (by rw [HL.out]; exact hlt)
      have HN : Hid ((nth xs i).n ≤ 64) := hid (HMN.out i hlt)
      have HRX : Hid (Row wr B (nth xs i).A (nth xs i).n (bv (nth xs i).b)) := hid (HR.out.2 _ hmem)
      have HQ : Hid (∀ A c, likeTo xs (l.set i { nth xs i with A := A, c := c }) (i + 1)) := hid fun A c => likeTo_next HLK.out (by rw [HL.out]; exact hlt) ⟨A, c, rfl⟩
      have hBr : B ≤ wr.heap.size := Nat.le_trans hB HB.out.size
      clear hc hmem
      generalize nth xs i = y at *
      go_wp2_with (first
        | (refine wpList_se (v := { y with A := A4, c := c4 }) rfl (.tmp 38) (.tmp 37) rfl (k := i) rfl rfl OW4.out hlt ?_; intro w5 own5 b5 o5 s5)
        | (go_at_call 29; refine (own_any y B w3 (HRX.out.below (B3.out.mono hBr)) (Nat.le_trans hBr B3.out.size) (by have := HN.out; omega)).mono ?_; rintro e w4 ⟨A4, c4, rfl, new4, b4⟩; have B4 : Hid (Below wr.heap.size wr w4) := hid (B3.out.trans (b4.mono B3.out.size)); have OW4 := hid (HW.out.below B4.out); have E4 := hid (HE.out.below B4.out); have N4 := hid (new4.base_le (Nat.le_trans HZ.out B3.out.size)))
        | (refine wpList_lda (x := y) rfl (.tmp 11) rfl rfl r3 ?_)
        | (refine wpList_sva (x := y) rfl (.tmp 11) (.tmp 33) rfl rfl rfl r2 ?_; intro w3 r3 b3 o3 s3; have B3 : Hid (Below wr.heap.size wr w3) := hid (b2.trans b3))
        | (refine wpList_ala rfl rfl ?_; intro w2 r2 b2 s2)
        | (refine wpList_lde (x := y) rfl (.tmp 32) rfl rfl r1.out ?_))
      go_roundw
      case rel =>
        have hbb : Below base wr w5 := (B4.out.mono HZ.out).trans b5
        refine ⟨i + 1, _, by go_num, by omega, own5, ?_, HQ.out A4 c4, HV.out.below hbb h5b, HB.out.trans (hbb.mono hwb), Nat.le_trans HZ.out hbb.size⟩
        exact El.set2 (E4.out.oth5 OW4.out o5) (N4.out.oth5 OW4.out o5)
      case measure => simp [intOf]; omega
    · have hin : i = n := by omega
      subst hin
      have hkn : (k : Int) < (i : Int) := by omega
      have hr := HW.out.range hk
      obtain ⟨A0, c0, hsame⟩ := HLK.out.2 k hk
      have c7 : wr.cell? ⟨base, k * 8 + 7, none⟩ = some (.int .i64 (nth xs k).lf) := by
        have := hr 7 _ rfl
        rw [hsame] at this
        exact this
      have HR := hid (HA.out.below (HB.out.mono hB))
      have HNK : Hid ((nth xs k).n ≤ 64) := hid (HMN.out k hk)
      obtain ⟨S, hS⟩ : ∃ S, IntKind.i64.wrap ((nth xs k).lf - 1) = S := ⟨_, rfl⟩
      have HS2 : Hid (S = (nth xs k).lf - 1) := hid (by rw [← hS, IntKind.wrap_i64]; have := HLF.out; omega)
      obtain ⟨y1, hy1⟩ : ∃ y1 : Ar, { nth l k with lf := S } = y1 := ⟨_, rfl⟩
      have HY1 : Hid (enc y1 = (enc (nth l k)).set 7 (.int .i64 S)) := hid (by rw [← hy1]; rfl)
      have hkl : k < l.length := by rw [HLL.out]; exact hk
      have HNI : Hid (nth (l.set k y1) k = y1) := hid (nth_of (by rw [List.getElem?_set_self hkl]))
      have HYL : Hid (y1.lf = S) := hid (by rw [← hy1])
      have HY4 : Hid (y1 = { nth xs k with A := A0, c := c0, lf := S }) := hid (by rw [← hy1, hsame])
      have HE1 : Hid (y1.A = (nth l k).A ∧ y1.n = (nth l k).n ∧ y1.c = (nth l k).c ∧ y1.b = (nth l k).b) := hid (by rw [← hy1]; exact ⟨rfl, rfl, rfl, rfl⟩)
      have HOT : Hid (∀ j, j ≠ k → j < i → nth (l.set k y1) j = nth l j) := hid fun j hj hji => nth_of (by rw [List.getElem?_set_ne (by omega)]; exact nth_get (by rw [HLL.out]; exact hji))
      have HKL := hid hkl
      have hBr : B ≤ wr.heap.size := Nat.le_trans hB HB.out.size
      have HRX : Hid (Row wr B (nth xs k).A (nth xs k).n (bv (nth xs k).b)) := hid (HR.out.2 _ (nth_mem (by rw [HL.out]; exact hk)))
      have HXR : Hid (∀ w', Below base wr w' → w'.rangeAt b (o + k * 8) (enc (nth xs k))) := hid fun w' h => by
        obtain ⟨b', o', hA2, _, hc⟩ := (HR.out.below (h.mono (show B ≤ base by omega))).1.all (by omega)
        injection hA2 with hA2; injection hA2 with e1 e2; subst e1; subst e2
        exact hc k hk
      have HFIN1 : Hid ((nth xs k).lf = 1 → heardP xs k (i - 1) (without (l.set k y1) k)) := hid fun h => by
        unfold heardP
        rw [if_pos h, HL.out]
        refine ⟨rfl, fun j hj => ?_⟩
        rw [nth_without (by rw [List.length_set]; exact HKL.out)]
        by_cases q : j < k
        · rw [if_pos q, if_pos q, HOT.out j (by omega) (by omega)]; exact HLK.out.2 j (by omega)
        · rw [if_neg q, if_neg q, HOT.out (j + 1) (by omega) (by omega)]; exact HLK.out.2 (j + 1) (by omega)
      have HFIN2 : Hid (¬ (nth xs k).lf = 1 → heardP xs k i (l.set k y1)) := hid fun h => by
        unfold heardP
        rw [if_neg h, HL.out]
        refine ⟨rfl, fun j hj => ?_⟩
        by_cases q : j = k
        · subst q
          exact ⟨A0, c0, by rw [HNI.out, HY4.out, HS2.out, if_pos rfl]⟩
        · obtain ⟨A7, c7, e7⟩ := HLK.out.2 j hj
          exact ⟨A7, c7, by rw [HOT.out j q hj, e7, if_neg q]⟩
      obtain ⟨x, hx⟩ : ∃ x, nth xs k = x := ⟨_, rfl⟩
      have HXX := hid hx
      have HOWN2 : Hid (∀ w' : World, Below base wr w' → Calls Try.prog 29 #[itv x] w' (RetO x w')) := hid fun w' h => by
        rw [← hx]
        exact own_any _ B w' (HRX.out.below (h.mono (show B ≤ base by omega))) (Nat.le_trans hBr h.size) (by have := HNK.out; omega)
      rw [hx] at HS2 c7 hS HXR HFIN1 HFIN2
      clear hr hsame hy1 hkl hx HRX HNK
      by_cases h1 : x.lf = 1
      · have hS0 : S = 0 := by rw [HS2.out]; omega
        subst hS0
        have HH1 := hid (HFIN1.out h1)
        have hj : (k : Int) + 1 = ((k + 1 : Nat) : Int) := by omega
        have HD : Hid (∀ w', Ow w' base (some ⟨base, 0, none⟩) i i (l.set k y1) → Calls Try.prog 33 #[.slice (some ⟨base, 0, none⟩) i i, .int .i64 (k : Int), .int .i64 ((k : Int) + 1)] w' (RetD base base i i (l.set k y1) k w')) := hid fun w' h => by rw [hj]; exact del_any base base i i k (k + 1) _ w' h hk rfl
        clear h1 hj
        go_wp2_with (first
          | (refine wpList_sva (x := { x with A := A8, c := c8 }) rfl (.tmp 5) (.tmp 64) rfl rfl rfl V8.out ?_; intro w9 r9 b9 o9 s9)
          | (go_at_call 29; refine (HOWN2.out w7 B7.out).mono ?_; rintro e w8 ⟨A8, c8, rfl, new8, b8⟩; have V8 := hid (V7.out.below b8 V7.out.lt))
          | (refine wpList_lde (x := x) rfl (.tmp 62) rfl rfl (HXR.out w7 B7.out) ?_)
          | (go_at_call 33; refine (HD.out w6 own6).mono ?_; rintro e w7 ⟨rfl, rw7, o7, b7⟩; have B7 : Hid (Below base wr w7) := hid (b6.trans b7); have V7 := hid (HV.out.below B7.out h5b); have E7 := hid (E6.out.oth5 own6 o7))
          | (refine wpList_sef y1 7 (.int .i64 0) rfl 3 (.tmp 47) (.tmp 45) rfl (k := k) rfl rfl HW.out hk HY1.out (by omega) rfl rfl size3 ?_; intro w6 own6 b6 o6 s6; have E6 : Hid (El w6 base (l.set k y1)) := hid ((HE.out.oth5 HW.out o6).set2 (by rw [HE1.out.1, HE1.out.2.1, HE1.out.2.2.1, HE1.out.2.2.2]; exact (HE.out _ (nth_mem HKL.out)).oth5 HW.out o6)); have d7 : w6.cell? ⟨base, k * 8 + 7, none⟩ = some (.int .i64 0) := by (have := own6.range hk 7 _ rfl; rw [HNI.out, HYL.out] at this; exact this)))
        refine bodyPost_ret (w := w9) (results_1a1 Try.results18 _ rfl r9) rfl ?_
        have hs7 : w.heap.size ≤ w7.heap.size := Nat.le_trans HB.out.size B7.out.size
        have hbl : base < w7.heap.size := Nat.lt_of_lt_of_le HW.out.ge.2 B7.out.size
        have hB9 : Below w.heap.size w w9 := ((HB.out.trans (B7.out.mono hwb)).trans (b8.mono hs7)).trans b9
        have hE9 : El w9 base (without (l.set k y1) k) := ((E7.out.below b8).oth o9 h5b).sub without_sub
        have hR9 : Rw w9 w9.heap.size (some ⟨base, 0, none⟩) (i - 1) (without (l.set k y1) k) :=
          rw7.blk (Nat.lt_of_lt_of_le hbl (Nat.le_trans b8.size b9.size)) ((o9 base (by omega)).trans (b8.block base hbl))
        refine ⟨some ⟨base, 0, none⟩, i - 1, i, without (l.set k y1) k, A8, c8, ?_, HH1.out, ⟨hR9, hE9.ba⟩, hB9⟩
        rw [HXX.out]; rfl
      · have hS0 : (S == 0) = false := by rw [HS2.out]; simp; omega
        have HH2 := hid (HFIN2.out h1)
        clear h1
        go_wp2_with (first
          | (refine wpList_sva (x := { x with A := A8, c := c8 }) rfl (.tmp 5) (.tmp 64) rfl rfl rfl V8.out ?_; intro w9 r9 b9 o9 s9)
          | (go_at_call 29; refine (HOWN2.out w6 B6.out).mono ?_; rintro e w8 ⟨A8, c8, rfl, new8, b8⟩; have V8 := hid (V6.out.below b8 V6.out.lt))
          | (refine wpList_lde (x := x) rfl (.tmp 62) rfl rfl (HXR.out w6 B6.out) ?_)
          | (refine wpList_sef y1 7 (.int .i64 S) rfl 3 (.tmp 47) (.tmp 45) rfl (k := k) rfl rfl HW.out hk HY1.out (by omega) rfl rfl size3 ?_; intro w6 own6 b6 o6 s6; have E6 : Hid (El w6 base (l.set k y1)) := hid ((HE.out.oth5 HW.out o6).set2 (by rw [HE1.out.1, HE1.out.2.1, HE1.out.2.2.1, HE1.out.2.2.2]; exact (HE.out _ (nth_mem HKL.out)).oth5 HW.out o6)); have B6 : Hid (Below base wr w6) := hid b6; have V6 := hid (HV.out.below b6 h5b); have d7 : w6.cell? ⟨base, k * 8 + 7, none⟩ = some (.int .i64 S) := by (have := own6.range hk 7 _ rfl; rw [HNI.out, HYL.out] at this; exact this)))
        refine bodyPost_ret (w := w9) (results_1a1 Try.results18 _ rfl r9) rfl ?_
        have hs6 : w.heap.size ≤ w6.heap.size := Nat.le_trans HB.out.size B6.out.size
        have hB9 : Below w.heap.size w w9 := ((HB.out.trans (B6.out.mono hwb)).trans (b8.mono hs6)).trans b9
        have hO9 : Ow w9 base (some ⟨base, 0, none⟩) i i (l.set k y1) := (own6.below b8).other (fun q hq => o9 q (by omega))
        have hE9 : El w9 base (l.set k y1) := (E6.out.below b8).oth o9 h5b
        refine ⟨some ⟨base, 0, none⟩, i, i, l.set k y1, A8, c8, ?_, HH2.out, hO9.ra hE9, hB9⟩
        rw [HXX.out]; rfl
end
end Go.Proofs.Ytjmkhhmibkiijaa
