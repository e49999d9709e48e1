/-
  What a record at a place is, in plain words; the contract of wire's TakeRecord.
-/
import Derived.Test.YtkbcmnheecihiaaH
import Derived.Deep.RegionHeld3
namespace Go.Proofs.Ytkbcmnheecihiaa
open Go Go.RowKit

theorem take_drop_aux {l : List Nat} {k m j : Nat} (hj : j ≤ m - k) : (l.drop k).take j = ((l.take m).drop k).take j := by
  rw [List.drop_take, List.take_take, Nat.min_eq_left hj]

theorem bod_ok {bs : List Nat} {k p q : Nat} (ho : Oct bs) (h : bod bs k = (p, q, 0)) :
    ∃ hk : k < bs.length, k + 2 ≤ p ∧ p ≤ q ∧ q ≤ bs.length ∧ q - p ≤ 1048576 ∧ (bs.take q).drop k = rcd bs[k] ((bs.take q).drop p) := by
  unfold bod at h
  by_cases h1 : bs.length ≤ k
  · rw [if_pos h1] at h; simp at h
  · rw [if_neg h1] at h
    have hk : k < bs.length := by omega
    obtain ⟨x, r, y, hxyz⟩ : ∃ x r y, tv true 0 (k + 1) (bs.drop (k + 1)) = (x, r, y) := ⟨_, _, _, rfl⟩
    rw [hxyz] at h
    simp only at h
    by_cases h2 : y = 0
    · subst h2
      obtain ⟨hx64, hr, hr2, htake⟩ := tv_back _ _ _ _ (ho.drop _) hxyz
      rw [List.length_drop] at hr2
      rw [if_neg (by omega)] at h
      by_cases h3 : 1048576 < x
      · rw [if_pos h3] at h; simp at h
      · rw [if_neg h3] at h
        by_cases h4 : bs.length - r < x
        · rw [if_pos h4] at h; simp at h
        · rw [if_neg h4] at h
          obtain ⟨rfl, rfl, -⟩ : r = p ∧ r + x = q ∧ True := by simpa using h
          have hv : 0 < (vary x).length := by rw [vary_len]; omega
          refine ⟨hk, by omega, by omega, by omega, by omega, ?_⟩
          have hlen : ((bs.take (r + x)).drop r).length = x := by rw [List.length_drop, List.length_take]; omega
          unfold rcd
          rw [hlen]
          have e1 : (bs.take (r + x)).drop k = bs[k] :: (bs.take (r + x)).drop (k + 1) := by
            rw [List.drop_eq_getElem_cons (by rw [List.length_take]; omega), List.getElem_take]
          rw [e1]
          congr 1
          have e2 : (bs.take (r + x)).drop (k + 1) = ((bs.take (r + x)).drop (k + 1)).take (vary x).length ++ ((bs.take (r + x)).drop (k + 1)).drop (vary x).length := (List.take_append_drop _ _).symm
          rw [e2, List.drop_drop]
          congr 1
          · rw [← take_drop_aux (by omega : (vary x).length ≤ r + x - (k + 1))]
            exact htake
          · congr 1; omega
    · rw [if_pos h2] at h; simp at h; omega
theorem rcd_len (kd : Nat) (body : List Nat) : (rcd kd body).length = (vary body.length).length + body.length + 1 := by simp [rcd]
theorem rcd_oct {kd : Nat} {body : List Nat} (h : kd < 256) (hb : Oct body) : Oct (rcd kd body) := Oct.cons h ((vary_oct _).app hb)
theorem bod_at (pre body rest : List Nat) (kd : Nat) (hb : body.length ≤ 1048576) :
    bod (pre ++ (rcd kd body ++ rest)) pre.length = (pre.length + 1 + (vary body.length).length, pre.length + 1 + (vary body.length).length + body.length, 0) := by
  have hl : (pre ++ (rcd kd body ++ rest)).length = pre.length + 1 + (vary body.length).length + body.length + rest.length := by
    rw [List.length_append, List.length_append, rcd_len]; omega
  have hd : (pre ++ (rcd kd body ++ rest)).drop (pre.length + 1) = vary body.length ++ (body ++ rest) := by
    rw [List.drop_append, List.drop_eq_nil_of_le (by omega)]
    simp [rcd]
  unfold bod
  rw [if_neg (by omega), hd, tv_vary _ (by omega), hl]
  simp only
  rw [if_neg (by omega), if_neg (by omega), if_neg (by omega)]
theorem bod_err {bs : List Nat} {k a p e : Nat} (h : bod bs k = (a, p, e)) (he : e ≠ 0) : a = 0 ∧ p = 0 := by
  unfold bod at h
  simp only at h
  split at h
  · simp at h; omega
  · split at h
    · simp at h; omega
    · split at h
      · simp at h; omega
      · split at h
        · simp at h; omega
        · simp at h; omega

/-- What TakeRecord tells of a record. -/
def RetTR (kd q : Nat) (body : List Nat) (w : World) (e : Ending) (w' : World) : Prop :=
  ∃ A n c, e = .returned (.tuple #[.int .u8 (kd : Int), .slice A n c, .int .i64 (q : Int), .int .i64 0]) ∧ Own w' w.heap.size 5 A n c (bv body) ∧ Below w.heap.size w w'

theorem results_4 {fn : Func} {t u v x : Tmp} (h : fn.results = #[.tmp t, .tmp u, .tmp v, .tmp x]) (tmps : Array Value) (P : Program) (w : World) :
    (results fn tmps).run P w = .ok (.tuple #[tmps.getD t undef, tmps.getD u undef, tmps.getD v undef, tmps.getD x undef]) w := by simp [results, h]

theorem takeRecord_err (A : Option Addr) (n c B k a p e : Nat) (bs : List Nat) (w : World) (hr : Row w B A n (bv bs)) (ho : Oct bs) (hn : n ≤ 9000000000000000000) (hk : k ≤ 9000000000000000001) (hb : bod bs k = (a, p, e)) (he : e ≠ 0) :
    Calls Try.prog 21 #[.slice A n c, .int .i64 (k : Int)] w fun r w' => r = .returned (.tuple #[.int .u8 0, .slice none 0 0, .int .i64 0, .int .i64 (e : Int)]) ∧ w = w' := by
  have HR := hid hr
  have HO := hid ho
  have HB := hid hb
  have hne : ((e : Int) != 0) = true := by rw [bne_iff_ne]; omega
  clear hr ho hb
  go_enter Try.func21, Try.ntmps21
  go_wp2_with (go_at_call 32; refine (bodyAt_any A n c B k a p e bs _ HR.out HO.out hn hk HB.out).mono ?_; rintro r w' ⟨rfl, rfl⟩)
  refine bodyPost_ret (results_4 rfl _ _ _) rfl ?_
  exact ⟨rfl, rfl⟩

theorem copied_0 (A : Option Addr) (n c B : Nat) (vs : List Value) (w : World) (ha : Row w B A n vs) (h1 : ∀ u ∈ vs, u.oneCell' = true) (hn : n ≤ 10000000) (hB : B ≤ w.heap.size) :
    Calls Try.prog 26 #[.slice A n c, .int .i64 0] w (RetB w.heap.size vs w) := copied_any A n c B 0 vs w ha h1 (by omega) hB

set_option maxHeartbeats 1000000 in
theorem takeRecord_ok (A : Option Addr) (n c B k p q : Nat) (bs : List Nat) (w : World) (hr : Row w B A n (bv bs)) (hB : B ≤ w.heap.size) (ho : Oct bs) (hn : n ≤ 100000000) (hnc : n ≤ c) (hb : bod bs k = (p, q, 0)) :
    Calls Try.prog 21 #[.slice A n c, .int .i64 (k : Int)] w (RetTR (bs.getD k 0) q ((bs.take q).drop p) w) := by
  obtain ⟨hk, h1, h2, h3, h4, _⟩ := bod_ok ho hb
  have hl := hr.1
  rw [bv_len] at hl
  obtain ⟨b, o, rfl, hbb, hc⟩ := hr.2 (by omega)
  obtain ⟨x, hx⟩ : ∃ x, x = bs.getD k 0 := ⟨_, rfl⟩
  have hcell : w.cell? ⟨b, o + k, none⟩ = some (.int .u8 (x : Int)) := hc k _ (by simp [bv, List.getElem?_eq_getElem hk, hx, List.getD])
  rw [← hx]
  have hkn : k < n := by omega
  have hqn : q ≤ n := by omega
  have HR := hid hr
  have HC : Hid (Row w B (if c = p then some ⟨b, o, none⟩ else some ⟨b, o + p, none⟩) (q - p) (bv ((bs.take q).drop p))) := hid (by
    have := hr.cut h2 (show q ≤ n by omega) hnc
    rw [bv_take, bv_drop] at this
    simpa [plain_add] using this)
  have HO := hid ho
  have HB := hid hb
  clear hr ho hb hx hc hl
  go_enter Try.func21, Try.ntmps21
  go_wp2_with (go_at_call 32; refine (bodyAt_any _ n c B k p q 0 bs _ HR.out HO.out (by omega) (by omega) HB.out).mono ?_; rintro r w' ⟨rfl, rfl⟩)
  have i1 : (0 : Int) ≤ (k : Int) := Int.natCast_nonneg _
  have i2 : (k : Int) < (n : Int) := by omega
  have i3 : (0 : Int) ≤ (p : Int) := Int.natCast_nonneg _
  have i4 : (p : Int) ≤ (q : Int) := by omega
  have i5 : (q : Int) ≤ (c : Int) := by omega
  have HCF := hid (copied_0 _ _ (c - p) B (bv ((bs.take q).drop p)) w.drew (HC.out.keep (fun _ _ => rfl)) (bv_one _) (by omega) hB)
  go_region_held3 (fun w' => w'.cell? ⟨b, o + k, none⟩ = some (.int .u8 (x : Int)))
    (first | exact hcell | exact (bel1.cell (p := ⟨b, o + k, none⟩) (Nat.lt_of_lt_of_le hbb hB)).trans hcell)
    (first | (go_at_call 26; refine (HCF.out).mono ?_; rintro e w1 ⟨A1, n1, c1, rfl, own1, bel1⟩; dsimp only))
  all_goals go_wp2
  all_goals refine bodyPost_ret (results_4 rfl _ _ _) rfl ?_
  all_goals exact ⟨A1, n1, c1, rfl, own1, ⟨bel1.os, bel1.tape, bel1.output, bel1.size, bel1.block⟩⟩

end Go.Proofs.Ytkbcmnheecihiaa
