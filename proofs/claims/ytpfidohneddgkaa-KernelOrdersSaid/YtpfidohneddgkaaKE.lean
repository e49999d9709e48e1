/-
  kernel.own, kernel.New, kernel.Peek, and the document's own Copy: what they tell. What is asked: at most 4096 things, whose numbers are of 64 bits.
-/
import Derived.Test.YtpfidohneddgkaaKD
import Derived.Test.YtpfidohneddgkaaW
namespace Go.Proofs.Ytpfidohneddgkaa
open Go Go.RowKit Go.Maps

/-- A slice that is new: from block 'base' on. -/
def New (base : Nat) (A : Option Addr) : Prop := ∀ b o, A = some ⟨b, o, none⟩ → base ≤ b
/-- What a call tells as a heap: new, and it reads as l; all that was is as it was. -/
def QR (w : World) (A : Option Addr) (n : Nat) (l : List It) (w' : World) : Prop := Row w' w'.heap.size A n l ∧ New w.heap.size A ∧ Below w.heap.size w w'
theorem New.le {a b : Nat} {A : Option Addr} (h : New b A) (hb : a ≤ b) : New a A := fun g o e => Nat.le_trans hb (h g o e)
theorem New.none (a : Nat) : New a none := fun _ _ e => by cases e
theorem Row.top {w : World} {B n : Nat} {A : Option Addr} {xs : List It} (h : Row w B A n xs) : Row w w.heap.size A n xs :=
  ⟨h.1, fun hn => by
    obtain ⟨b, o, e, hb, hc⟩ := h.2 hn
    refine ⟨b, o, e, ?_, hc⟩
    have hl : 0 < (flat xs).length := by rw [flat_len, h.1]; omega
    have := hc 0 _ (List.getElem?_eq_getElem hl)
    exact World.block_lt_of_cell? w _ this⟩
theorem Row.up {w w' : World} {n : Nat} {A : Option Addr} {xs : List It} (h : Row w w.heap.size A n xs) (hk : Below w.heap.size w w') : Row w' w'.heap.size A n xs := (h.below hk).more hk.size
theorem Own.qr {w w' : World} {n c : Nat} {A : Option Addr} {xs : List It} (h : Own w' w.heap.size A n c xs) (hk : Below w.heap.size w w') : QR w A n xs w' := ⟨h.row, h.new, hk⟩
/-- A store into a variable made behind it or ahead of it. -/
theorem QR.oth {w w' w'' : World} {A : Option Addr} {n g : Nat} {l : List It} (h : QR w A n l w') (ho : Oth g w' w'') (hb : Below g w' w'') (hg : w.heap.size ≤ g) (hA : ∀ b o, A = some ⟨b, o, none⟩ → b ≠ g) : QR w A n l w'' :=
  ⟨((h.1.oth ho hA).more hb.size), h.2.1, h.2.2.trans (hb.mono hg)⟩

/-- A queue told, with a heap of which P is true; .. and an error; .. a token and an error; .. a thing and an error. -/
def RetQ (w : World) (n : Nat) (nx nw hz : Int) (P : List It → Prop) (e : Ending) (w' : World) : Prop := ∃ A c l, e = .returned (qv ⟨A, n, c, nx, nw, hz⟩) ∧ P l ∧ QR w A n l w'
def RetQ1 (w : World) (n : Nat) (nx nw hz err : Int) (P : List It → Prop) (e : Ending) (w' : World) : Prop := ∃ A c l, e = .returned (.tuple #[qv ⟨A, n, c, nx, nw, hz⟩, .int .i64 err]) ∧ P l ∧ QR w A n l w'
def RetQ2 (w : World) (n : Nat) (nx nw hz tok err : Int) (P : List It → Prop) (e : Ending) (w' : World) : Prop := ∃ A c l, e = .returned (.tuple #[qv ⟨A, n, c, nx, nw, hz⟩, .int .u64 tok, .int .i64 err]) ∧ P l ∧ QR w A n l w'
def RetQI (w : World) (n : Nat) (nx nw hz : Int) (x : It) (err : Int) (P : List It → Prop) (e : Ending) (w' : World) : Prop := ∃ A c l, e = .returned (.tuple #[qv ⟨A, n, c, nx, nw, hz⟩, itv x, .int .i64 err]) ∧ P l ∧ QR w A n l w'
def RetI (w : World) (x : It) (err : Int) (e : Ending) (w' : World) : Prop := e = .returned (.tuple #[itv x, .int .i64 err]) ∧ Below w.heap.size w w'

set_option maxRecDepth 100000 in
theorem own_any (A : Option Addr) (n c : Nat) (nx nw hz : Int) (B : Nat) (xs : List It) (w : World) (ha : Row w B A n xs) (hB : B ≤ w.heap.size) (hn : n ≤ 4096) :
    Calls Try.prog 32 #[qv ⟨A, n, c, nx, nw, hz⟩] w (RetQ w n nx nw hz (· = xs)) := by
  have HA : Hid (Row w B A n xs) := hid ha
  clear ha
  go_enter Try.func32, Try.ntmps32
  go_wp2_with (first
    | (refine wpList_boxq (q := ⟨A, n, c, nx, nw, hz⟩) rfl (.tmp 0) rfl rfl ?_; intro w1 v1 b1 s1)
    | (refine wpList_alq rfl rfl ?_; intro w2 r2 b2 s2; have v2 := v1.below b2 v1.lt; have B2 : Hid (Below w.heap.size w w2) := hid (b1.trans (b2.mono b1.size)); have c0 : w2.cell? ⟨w.heap.size, 0, none⟩ = some (.slice A n c) := v2.c0)
    | (go_at_call 48; refine (clone_any A n c B xs w2 (HA.out.below (B2.out.mono hB)) (Nat.le_trans hB B2.out.size) (by omega)).mono ?_; rintro e w3 ⟨A3, c3, l3, rfl, rfl, own3, b3⟩; have v3 := v2.below b3 v2.lt; have r3 := r2.below b3 r2.lt; have B3 : Hid (Below w.heap.size w w3) := hid (B2.out.trans (b3.mono B2.out.size)))
    | (refine wpList_sf0 rfl (.tmp 6) (.tmp 5) rfl rfl rfl v3 ?_; intro w4 v4 b4 o4 _; have r4 := r3.other o4 (by have := v1.lt; omega); have B4 : Hid (Below w.heap.size w w4) := hid (B3.out.trans b4); have own4 := own3.other (w' := w4) (fun g hg => o4 g (by have := v2.lt; omega)))
    | (refine wpList_ldq rfl (.tmp 1) rfl rfl v4 ?_)
    | (refine wpList_svq rfl (.tmp 2) (.tmp 7) rfl rfl rfl r4 ?_; intro w5 r5 b5 o5 _; have B5 : Hid (Below w.heap.size w w5) := hid (B4.out.trans (b5.mono b1.size)); have own5 := own4.other (w' := w5) (fun g hg => o5 g (by have := r2.lt; omega))))
  refine bodyPost_ret (w := w5) (results_q Try.results32 _ rfl r5) rfl ?_
  exact ⟨A3, c3, l3, rfl, rfl, (own5.base_le B2.out.size).qr B5.out⟩

/-- The document's own Copy. -/
theorem copy_any (A : Option Addr) (n c : Nat) (nx nw hz : Int) (B : Nat) (xs : List It) (w : World) (ha : Row w B A n xs) (hB : B ≤ w.heap.size) (hn : n ≤ 4096) :
    Calls Try.prog 11 #[qv ⟨A, n, c, nx, nw, hz⟩] w (RetQ w n nx nw hz (· = xs)) := by
  have HA : Hid (Row w B A n xs) := hid ha
  clear ha
  go_enter Try.func11, Try.ntmps11
  go_wp2_with (first
    | (refine wpList_boxq (q := ⟨A, n, c, nx, nw, hz⟩) rfl (.tmp 0) rfl rfl ?_; intro w1 v1 b1 s1)
    | (refine wpList_alq rfl rfl ?_; intro w2 r2 b2 s2; have v2 := v1.below b2 v1.lt; have B2 : Hid (Below w.heap.size w w2) := hid (b1.trans (b2.mono b1.size)); have c0 : w2.cell? ⟨w.heap.size, 0, none⟩ = some (.slice A n c) := v2.c0)
    | (at_builtin; refine wpList_ap rfl (.const (.slice none 0 0)) (.tmp 4) rfl (base := w2.heap.size) (l := []) rfl (Own.nil _ _) rfl (HA.out.below (B2.out.mono hB)) (by omega) (Nat.le_refl _) ?_; intro A3 c3 w3 own3 b3; rw [List.nil_append, Nat.zero_add] at own3; rw [Nat.zero_add]; have v3 := v2.below b3 v2.lt; have r3 := r2.below b3 r2.lt; have B3 : Hid (Below w.heap.size w w3) := hid (B2.out.trans (b3.mono B2.out.size)))
    | (refine wpList_sf0 rfl (.tmp 6) (.tmp 5) rfl rfl rfl v3 ?_; intro w4 v4 b4 o4 _; have r4 := r3.other o4 (by have := v1.lt; omega); have B4 : Hid (Below w.heap.size w w4) := hid (B3.out.trans b4); have own4 := own3.other (w' := w4) (fun g hg => o4 g (by have := v2.lt; omega)))
    | (refine wpList_ldq rfl (.tmp 1) rfl rfl v4 ?_)
    | (refine wpList_svq rfl (.tmp 2) (.tmp 7) rfl rfl rfl r4 ?_; intro w5 r5 b5 o5 _; have B5 : Hid (Below w.heap.size w w5) := hid (B4.out.trans (b5.mono b1.size)); have own5 := own4.other (w' := w5) (fun g hg => o5 g (by have := r2.lt; omega))))
  refine bodyPost_ret (w := w5) (results_q Try.results11 _ rfl r5) rfl ?_
  exact ⟨A3, c3, xs, rfl, rfl, (own5.base_le B2.out.size).qr B5.out⟩

section
variable (A : Option Addr) (n c : Nat) (nx nw hz : Int) (B : Nat) (xs : List It) (w : World)
theorem peek_bad (ha : Row w B A n xs) (hB : B ≤ w.heap.size) (hn : n ≤ 4096) (hs : ∀ x ∈ xs, 0 ≤ sq x ∧ sq x ≤ 18446744073709551615) (hok : okB nx nw hz xs = false) :
    Calls Try.prog 19 #[qv ⟨A, n, c, nx, nw, hz⟩] w (RetI w zr 1) := by
  have HK := hid (fun w' hb => kcheck_any ⟨A, n, c, nx, nw, hz⟩ B xs w' (ha.below (w' := w') (Below.mono hb hB)) (Nat.le_trans hB hb.size) hn hs)
  rw [okE_bad hok] at HK
  clear ha hs hok
  go_enter Try.func19, Try.ntmps19
  go_wp2_with (first
    | (refine wpList_boxq (q := ⟨A, n, c, nx, nw, hz⟩) rfl (.tmp 0) rfl rfl ?_; intro w1 v1 b1 s1)
    | (refine wpList_ali rfl rfl ?_; intro w2 r2 b2 s2; have v2 := v1.below b2 v1.lt; have B2 : Hid (Below w.heap.size w w2) := hid (b1.trans (b2.mono b1.size)))
    | (refine wpList_ldq rfl (.tmp 1) rfl rfl v2 ?_)
    | (go_at_call 27; refine (HK.out w2 B2.out).mono ?_; rintro e w3 ⟨rfl, b3⟩; have r3 := r2.below b3 r2.lt; have B3 : Hid (Below w.heap.size w w3) := hid (B2.out.trans (b3.mono B2.out.size)))
    | (refine wpList_svi (v := zr) rfl (.tmp 2) (.tmp 9) rfl rfl rfl r3 ?_; intro w5 r5 b5 o5 _; have B5 : Hid (Below w.heap.size w w5) := hid (B3.out.trans (b5.mono b1.size))))
  refine bodyPost_ret (w := w5) (results_i1 Try.results19 _ rfl r5) rfl ?_
  exact ⟨rfl, B5.out⟩
theorem peek_none (hok : okB nx nw hz [] = true) :
    Calls Try.prog 19 #[qv ⟨A, 0, c, nx, nw, hz⟩] w (RetI w zr 8) := by
  have HK := hid (fun w' => kcheck_any ⟨A, 0, c, nx, nw, hz⟩ w'.heap.size [] w' (Row.nil _ _ _) (Nat.le_refl _) (Nat.zero_le _) (fun x hx => by cases hx))
  rw [okE_ok hok] at HK
  clear hok
  go_enter Try.func19, Try.ntmps19
  go_wp2_with (first
    | (refine wpList_boxq (q := ⟨A, 0, c, nx, nw, hz⟩) rfl (.tmp 0) rfl rfl ?_; intro w1 v1 b1 s1)
    | (refine wpList_ali rfl rfl ?_; intro w2 r2 b2 s2; have v2 := v1.below b2 v1.lt; have B2 : Hid (Below w.heap.size w w2) := hid (b1.trans (b2.mono b1.size)))
    | (refine wpList_ldq rfl (.tmp 1) rfl rfl v2 ?_)
    | (go_at_call 27; refine (HK.out w2).mono ?_; rintro e w3 ⟨rfl, b3⟩; have r3 := r2.below b3 r2.lt; have v3 := v2.below b3 v2.lt; have B3 : Hid (Below w.heap.size w w3) := hid (B2.out.trans (b3.mono B2.out.size)); have c0 : w3.cell? ⟨w.heap.size, 0, none⟩ = some (.slice A (0 : Nat) c) := v3.c0)
    | (refine wpList_svi (v := zr) rfl (.tmp 2) (.tmp 15) rfl rfl rfl r3 ?_; intro w5 r5 b5 o5 _; have B5 : Hid (Below w.heap.size w w5) := hid (B3.out.trans (b5.mono b1.size))))
  refine bodyPost_ret (w := w5) (results_i1 Try.results19 _ rfl r5) rfl ?_
  exact ⟨rfl, B5.out⟩
theorem peek_ok (x : It) (ha : Row w B A n xs) (hB : B ≤ w.heap.size) (hn : n ≤ 4096) (hs : ∀ x ∈ xs, 0 ≤ sq x ∧ sq x ≤ 18446744073709551615) (hok : okB nx nw hz xs = true) (hn0 : 0 < n) (hx : nth xs 0 = x) :
    Calls Try.prog 19 #[qv ⟨A, n, c, nx, nw, hz⟩] w (RetI w x 0) := by
  have HK := hid (fun w' hb => kcheck_any ⟨A, n, c, nx, nw, hz⟩ B xs w' (ha.below (w' := w') (Below.mono hb hB)) (Nat.le_trans hB hb.size) hn hs)
  rw [okE_ok hok] at HK
  obtain ⟨b, o, rfl, hb, hc⟩ := ha.all hn0
  have RL := hid (hc 0 hn0)
  rw [Nat.zero_mul, Nat.add_zero, hx] at RL
  have hd : ((n : Int) == 0) = false := by simp; omega
  have i2 : (0 : Int) < (n : Int) := by omega
  clear ha hs hok hc
  go_enter Try.func19, Try.ntmps19
  go_wp2_with (first
    | (refine wpList_boxq (q := ⟨some ⟨b, o, none⟩, n, c, nx, nw, hz⟩) rfl (.tmp 0) rfl rfl ?_; intro w1 v1 b1 s1)
    | (refine wpList_ali rfl rfl ?_; intro w2 r2 b2 s2; have v2 := v1.below b2 v1.lt; have B2 : Hid (Below w.heap.size w w2) := hid (b1.trans (b2.mono b1.size)))
    | (refine wpList_ldq rfl (.tmp 1) rfl rfl v2 ?_)
    | (go_at_call 27; refine (HK.out w2 B2.out).mono ?_; rintro e w3 ⟨rfl, b3⟩; have r3 := r2.below b3 r2.lt; have v3 := v2.below b3 v2.lt; have B3 : Hid (Below w.heap.size w w3) := hid (B2.out.trans (b3.mono B2.out.size)); have c0 : w3.cell? ⟨w.heap.size, 0, none⟩ = some (.slice (some ⟨b, o, none⟩) n c) := v3.c0)
    | (refine wpList_ld rfl (.tmp 18) rfl rfl (range_keep RL.out (Nat.lt_of_lt_of_le hb hB) B3.out) ?_)
    | (refine wpList_svi (v := x) rfl (.tmp 2) (.tmp 19) rfl rfl rfl r3 ?_; intro w5 r5 b5 o5 _; have B5 : Hid (Below w.heap.size w w5) := hid (B3.out.trans (b5.mono b1.size))))
  refine bodyPost_ret (w := w5) (results_i1 Try.results19 _ rfl r5) rfl ?_
  exact ⟨rfl, B5.out⟩
end
end Go.Proofs.Ytpfidohneddgkaa
