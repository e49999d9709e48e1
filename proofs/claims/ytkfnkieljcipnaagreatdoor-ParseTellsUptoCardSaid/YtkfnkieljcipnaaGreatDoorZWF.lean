/-
  Contracts of print.Print (given what Check tells), print.Tidy, print.Is at every text; how long a text is that is printed; under: the tables hold what the program lays.
-/
import Derived.Test.YtkfnkieljcipnaaGreatDoorZWE
import Derived.Test.YtkfnkieljcipnaaGreatDoorZWB
import Derived.Test.YtkfnkieljcipnaaGreatDoorK7
namespace Go.Proofs.YtkfnkieljcipnaaGreatDoor
open Go Go.RowKit Go.Joins

theorem numX_len (n : Int) (time : Bool) (h : -1000000000000000000 < n ∧ n < 1000000000000000000) : (numX n time).length ≤ 22 := by
  have key : ∀ m : Int, m.natAbs < 1000000000000000000 → (Lib.itoa m).length ≤ 19 := by
    intro m hm
    obtain ⟨ds, _, _, _, d4, d5⟩ := itoa_form m
    have d6 := nDigits_le 18 m.natAbs hm (by omega)
    rcases d5 with ⟨_, d5⟩ | ⟨_, d5⟩
    · rw [d5, List.length_cons]; omega
    · rw [d5]; omega
  unfold numX
  split
  · have h2 : (unitOf n).1.length ≤ 2 := by
      unfold unitOf
      repeat' split
      all_goals decide
    have h3 : (n.tdiv (unitOf n).2).natAbs ≤ n.natAbs := by
      rw [Int.natAbs_tdiv]; exact Nat.div_le_self _ _
    have h4 := key (n.tdiv (unitOf n).2) (by omega)
    rw [List.length_append]; omega
  · have h4 := key n (by omega)
    omega
theorem numsL_len : ∀ ns : List (Int × Bool), (∀ x ∈ ns, -1000000000000000000 < x.1 ∧ x.1 < 1000000000000000000) → (numsL ns).length ≤ 23 * ns.length
  | [], _ => by simp [numsL]
  | x :: ns, h => by
    have h1 := numsL_len ns (fun y hy => h y (List.mem_cons_of_mem _ hy))
    have h2 := numX_len x.1 x.2 (h x (List.mem_cons_self ..))
    rw [numsL_cons]
    simp only [List.length_append, List.length_cons]
    omega
theorem line_len {wd : List UInt8} {ns : List (Int × Bool)} {bl : Bool} {k : Nat} (h : fitB wd ns bl k = true) : (lineF wd ns bl).length ≤ 202 := by
  obtain ⟨h1, h2, h3, _⟩ := fit_of h
  have h4 := numsL_len ns (far_of h3)
  have h5 : wd.length ≤ 16 := by
    match wd, h1 with
    | c :: r, h1 =>
      simp only [wordB, Bool.and_eq_true, decide_eq_true_eq] at h1
      simp only [List.length_cons]; omega
  have h6 : (tailL bl).length ≤ 2 := by cases bl <;> decide
  unfold lineF
  simp only [List.length_append]
  omega
theorem text_len : ∀ (f : Fo) (k : Int) (sp : List UInt8), f.okA k → 1 ≤ k → (sp.length : Int) + 2 * k ≤ 12 → (f.text sp).length ≤ 260 * f.count
  | .nil, _, _, _, _, _ => by simp [Fo.text]
  | .cons wd ns bl y n, k, sp, h, hk, hs => by
    obtain ⟨h1, h2, h3, h4⟩ := h
    have hl := line_len h1
    have hn := text_len n k sp h4 hk hs
    cases bl with
    | false =>
      simp only [Fo.text, Fo.count, List.length_append, List.length_cons, if_false, List.length_nil, Bool.false_eq_true]
      omega
    | true =>
      have := h2 rfl
      have hy := text_len y (k - 1) (sp ++ [32, 32]) h3 (by omega) (by simp only [List.length_append, List.length_cons, List.length_nil]; omega)
      simp only [Fo.text, Fo.count, List.length_append, List.length_cons, if_true, List.length_nil]
      omega

theorem prZ (w : World) : (zeroValue 77).run Tryz.prog w = .ok (.agg #[.pointer none, .slice none 0 0]) w := by kernel_rfl
theorem wp_alp {w : World} {ops : Array Oper} {rest : List Oper} {o : Oper} {a : Act} {Q : Exit → Act → World → Prop} (hg : o.guard = none) (ho : o.op = .alloc 77)
    (h : ∀ w', PB w' w.heap.size w.heap.size [] → Below w.heap.size w w' → Hid (w'.heap.size = w.heap.size + 1) → wpList Tryz.prog ops Q rest (a.put o.dst (.pointer (some ⟨w.heap.size, 0, none⟩))) w') : wpList Tryz.prog ops Q (o :: rest) a w := by
  refine wpList_plain hg fun K hK => ?_
  unfold Oper.wp execOp
  simp only [ho, Sem.run_bind, Instr.alloc, prZ, newVar, newRow, run_newObj_alloc, Sem.run_pure, Result.andThen_ok]
  exact hK _ _ (h _ (pb_new w) ((Below.refl _ _).alloc (Nat.le_refl _) _) (hid (by simp)))

/-- What Print tells: the error, the text. -/
def prE (f : Fo) : Nat := if chkE f = 0 then (if 65536 < (f.text []).length then 6 else 0) else 1
def prT (f : Fo) : List UInt8 := if prE f = 0 then f.text [] else []
def ChkAt (f : Fo) (v : Value) (w : World) : Prop := ∀ w1, Below w.heap.size w w1 → Calls Tryz.prog 20 #[v] w1 fun e w' => e = .returned (.int .i64 (chkE f : Nat)) ∧ Below w1.heap.size w1 w'
theorem chk_01 (f : Fo) : chkE f = 0 ∨ chkE f = 1 := by unfold chkE; split <;> simp
set_option maxHeartbeats 1000000 in
set_option maxRecDepth 100000 in
theorem print_any (f : Fo) (w : World) (K : Nat → Prop) (A : Option Addr) (n c : Nat) (hL : LaidW w) (ht : TrS w K A n f) (hK : ∀ k, K k → k < w.heap.size) (hc : ChkAt f (.slice A n c) w) :
    Calls Tryz.prog 27 #[.slice A n c] w fun e w' => e = .returned (.tuple #[.string (bA (prT f)), .int .i64 (prE f : Nat)]) ∧ Below w.heap.size w w' := by
  have HC := hid hc
  have HT := hid ht
  have HL := hid hL
  have HK := hid hK
  clear hc ht hL hK
  rcases chk_01 f with h0 | h1
  · obtain ⟨hok, hcount⟩ := chk_ok h0
    have htl := text_len f 6 [] hok (by omega) (by simp)
    have HC := hid (by have := HC.out w (Below.refl _ _); rwa [h0] at this)
    have HP := hid (fun w1 w2 (b1 : Below w.heap.size w w1) (b2 : Below w1.heap.size w1 w2) (hp : PB w2 w1.heap.size w1.heap.size []) => plist_any f w2 w1.heap.size w1.heap.size [] K A n c [] 6 hp
      (fun w3 b3 => HL.out.below (b1.trans ((b2.trans b3).mono b1.size))) (HT.out.keep fun j hj _ => (b1.trans (b2.mono b1.size)).block j (HK.out j hj)) (fun j hj => Nat.lt_of_lt_of_le (HK.out j hj) b1.size) hok (by omega) (by simp only [List.length_nil]; omega))
    simp only [List.nil_append] at HP
    by_cases hlen : 65536 < (f.text []).length
    · have hE : prE f = 6 := by unfold prE; rw [if_pos h0, if_pos hlen]
      have hT : prT f = [] := by unfold prT; rw [hE]; rfl
      rw [hE, hT]
      have hlen' : (65536 : Int) < ((f.text []).length : Int) := by omega
      clear hE hT hlen htl hok hcount h0
      generalize hq : f.text [] = q at *
      clear hq
      obtain ⟨z, hz⟩ : ∃ z : Nat, q.length = z := ⟨_, rfl⟩
      rw [hz] at hlen'
      go_enter Tryz.func27, Tryz.ntmps27
      go_wp2_with (first
        | (go_at_call 50; refine (plen_any P3.out).mono ?_; rintro e w4 ⟨rfl, rfl⟩; rw [hz])
        | (go_at_call 49; refine (HP.out w1 w2 B1.out B2.out P2.out).mono ?_; rintro e w3 ⟨rfl, p3, m3⟩; have P3 := hid p3; have B3 := hid (B1.out.trans ((B2.out.trans m3.bel).mono B1.out.size)); clear p3 m3)
        | (refine wp_alp rfl rfl ?_; intro w2 p2 b2 s2; have P2 := hid p2; have B2 := hid b2; clear p2 b2 s2)
        | (go_at_call 20; refine HC.out.mono ?_; rintro e w1 ⟨rfl, b1⟩; have B1 := hid b1; clear b1))
      go_ret2
      exact ⟨rfl, B3.out⟩
    · have hE : prE f = 0 := by unfold prE; rw [if_pos h0, if_neg hlen]
      have hT : prT f = f.text [] := by unfold prT; rw [hE]; rfl
      rw [hE, hT]
      have hlen' : ¬ (65536 : Int) < ((f.text []).length : Int) := by omega
      clear hE hT hlen htl hok hcount h0
      generalize hq : f.text [] = q at *
      clear hq
      obtain ⟨z, hz⟩ : ∃ z : Nat, q.length = z := ⟨_, rfl⟩
      rw [hz] at hlen'
      go_enter Tryz.func27, Tryz.ntmps27
      go_wp2_with (first
        | (go_at_call 51; refine (pstr_any P3.out).mono ?_; rintro e w5 ⟨rfl, b5⟩; have B5 := hid (B3.out.trans (b5.mono B1.out.size)); clear b5)
        | (go_at_call 50; refine (plen_any P3.out).mono ?_; rintro e w4 ⟨rfl, rfl⟩; rw [hz])
        | (go_at_call 49; refine (HP.out w1 w2 B1.out B2.out P2.out).mono ?_; rintro e w3 ⟨rfl, p3, m3⟩; have P3 := hid p3; have B3 := hid (B1.out.trans ((B2.out.trans m3.bel).mono B1.out.size)); clear p3 m3)
        | (refine wp_alp rfl rfl ?_; intro w2 p2 b2 s2; have P2 := hid p2; have B2 := hid b2; clear p2 b2 s2)
        | (go_at_call 20; refine HC.out.mono ?_; rintro e w1 ⟨rfl, b1⟩; have B1 := hid b1; clear b1))
      go_ret2
      exact ⟨rfl, B5.out⟩
  · have hne : ¬ chkE f = 0 := by omega
    have hE : prE f = 1 := by unfold prE; rw [if_neg hne]
    have hT : prT f = [] := by unfold prT; rw [hE]; rfl
    have HC := hid (by have := HC.out w (Below.refl _ _); rwa [h1] at this)
    rw [hE, hT]
    clear hE hT hne h1
    go_enter Tryz.func27, Tryz.ntmps27
    go_wp2_with (first
      | (go_at_call 20; refine HC.out.mono ?_; rintro e w1 ⟨rfl, b1⟩; have B1 := hid b1; clear b1))
    go_ret2
    exact ⟨rfl, B1.out⟩
end Go.Proofs.YtkfnkieljcipnaaGreatDoor
