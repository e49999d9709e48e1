/-
  Contracts of lex.isLetter, lex.isDigit, lex.isSmall, lex.behind, at every argument of its kind (a place's numbers below 2^40).
-/
import Derived.Test.YtinjhnflnfpoeaaGreatDoorGA
import Derived.Test.YtinjhnflnfpoeaaGreatDoorLP
namespace Go.Proofs.YtinjhnflnfpoeaaGreatDoor
open Go Go.RowKit

theorem letter_any (r : Nat) (w : World) : Calls Tryz.prog 55 #[.int .i32 r] w fun e w' => e = .returned (.bool (decide (97 ≤ r) && decide (r ≤ 122))) ∧ w' = w := by
  go_enter Tryz.func55, Tryz.ntmps55
  go_wp2
  all_goals (go_ret; exact ⟨ret_bool (by rw [Bool.eq_iff_iff]; simp; try omega), rfl⟩)
theorem digit_any (r : Nat) (w : World) : Calls Tryz.prog 56 #[.int .i32 r] w fun e w' => e = .returned (.bool (decide (48 ≤ r) && decide (r ≤ 57))) ∧ w' = w := by
  go_enter Tryz.func56, Tryz.ntmps56
  go_wp2
  all_goals (go_ret; exact ⟨ret_bool (by rw [Bool.eq_iff_iff]; simp; try omega), rfl⟩)
theorem small_any (n : Int) (w : World) : Calls Tryz.prog 83 #[.int .i64 n] w fun e w' => e = .returned (.bool (decide (-1000000000000000000 < n) && decide (n < 1000000000000000000))) ∧ w' = w := by
  go_enter Tryz.func83, Tryz.ntmps83
  go_wp2
  all_goals (go_ret; exact ⟨ret_bool (by rw [Bool.eq_iff_iff]; simp; try omega), rfl⟩)

/-! ### Places and tokens in memory -/
def encP (p : Pl) : List Value := [.int .i64 p.line, .int .i64 p.col]
def plS : Sh Tryz.prog Pl where
  enc := encP
  N := 2
  T := 26
  S := 41
  by_ := 16
  z := ⟨0, 0⟩
  d := _
  len := fun _ => rfl
  pos := by omega
  one := by intro x u hu; simp [encP] at hu; rcases hu with rfl | rfl <;> rfl
  undS := Tryz.underlying41
  undT := Tryz.underlying26
  isRow := rfl
  info := by kernel_rfl
  size := by kernel_rfl
  zero := fun w => by kernel_rfl
  small := by omega
  smallN := by omega
def strB (l : List UInt8) : ByteArray := ⟨l.toArray⟩
def encT (t : Tk) : List Value := [.int .i64 t.kind, .string (strB t.s), .int .i64 t.n, .bool t.time]
def tkS : Sh Tryz.prog Tk where
  enc := encT
  N := 4
  T := 45
  S := 40
  by_ := 40
  z := ⟨0, [], 0, false⟩
  d := _
  len := fun _ => rfl
  pos := by omega
  one := by intro x u hu; simp [encT] at hu; rcases hu with rfl | rfl | rfl | rfl <;> rfl
  undS := Tryz.underlying40
  undT := Tryz.underlying45
  isRow := rfl
  info := by kernel_rfl
  size := by kernel_rfl
  zero := fun w => by kernel_rfl
  small := by omega
  smallN := by omega
theorem pl_tk : plS.T ≠ tkS.T := by show 26 ≠ 45; decide
theorem tk_pl : tkS.T ≠ plS.T := by show 45 ≠ 26; decide
def plV (p : Pl) : Value := .agg #[.int .i64 p.line, .int .i64 p.col]
def tkV (t : Tk) : Value := .agg #[.int .i64 t.kind, .string (strB t.s), .int .i64 t.n, .bool t.time]

section
variable {w : World} {g : Nat}
theorem results_p {fn : Func} {p : Tmp} (h : fn.results = #[.cell p 26]) (tmps : Array Value) (hp : tmps.getD p undef = .pointer (some ⟨g, 0, none⟩)) {x : Pl} (hx : plS.Var w g x) :
    (results fn tmps).run Tryz.prog w = .ok (plV x) w := by
  have : (loadVar 26 ⟨g, 0, none⟩).run Tryz.prog w = .ok (plV x) w := Sh.ldv plS hx.1
  have hp' : tmps[p]?.getD undef = .pointer (some ⟨g, 0, none⟩) := by simpa using hp
  simp only [results, h]
  simp [hp', this, asAddr]
theorem results_p1 {fn : Func} {p r : Tmp} (h : fn.results = #[.cell p 26, .tmp r]) (tmps : Array Value) (hp : tmps.getD p undef = .pointer (some ⟨g, 0, none⟩)) {x : Pl} (hx : plS.Var w g x) :
    (results fn tmps).run Tryz.prog w = .ok (.tuple #[plV x, tmps.getD r undef]) w := by
  have : (loadVar 26 ⟨g, 0, none⟩).run Tryz.prog w = .ok (plV x) w := Sh.ldv plS hx.1
  have hp' : tmps[p]?.getD undef = .pointer (some ⟨g, 0, none⟩) := by simpa using hp
  simp only [results, h]
  simp [Result.andThen, hp', this, asAddr]
theorem results_t1 {fn : Func} {p r : Tmp} (h : fn.results = #[.cell p 45, .tmp r]) (tmps : Array Value) (hp : tmps.getD p undef = .pointer (some ⟨g, 0, none⟩)) {x : Tk} (hx : tkS.Var w g x) :
    (results fn tmps).run Tryz.prog w = .ok (.tuple #[tkV x, tmps.getD r undef]) w := by
  have : (loadVar 45 ⟨g, 0, none⟩).run Tryz.prog w = .ok (tkV x) w := Sh.ldv tkS hx.1
  have hp' : tmps[p]?.getD undef = .pointer (some ⟨g, 0, none⟩) := by simpa using hp
  simp only [results, h]
  simp [Result.andThen, hp', this, asAddr]
theorem results_11p1 {fn : Func} {p q s r : Tmp} (h : fn.results = #[.tmp q, .tmp s, .cell p 26, .tmp r]) (tmps : Array Value) (hp : tmps.getD p undef = .pointer (some ⟨g, 0, none⟩)) {x : Pl} (hx : plS.Var w g x) :
    (results fn tmps).run Tryz.prog w = .ok (.tuple #[tmps.getD q undef, tmps.getD s undef, plV x, tmps.getD r undef]) w := by
  have : (loadVar 26 ⟨g, 0, none⟩).run Tryz.prog w = .ok (plV x) w := Sh.ldv plS hx.1
  have hp' : tmps[p]?.getD undef = .pointer (some ⟨g, 0, none⟩) := by simpa using hp
  simp only [results, h]
  simp [Result.andThen, hp', this, asAddr]
end

theorem behind_line (p : Pl) (w : World) (h1 : p.line < 1099511627776) : Calls Tryz.prog 38 #[plV p, .int .i32 10] w fun e w' => e = .returned (plV ⟨p.line + 1, 1⟩) ∧ Below w.heap.size w w' := by
  go_enter Tryz.func38, Tryz.ntmps38
  go_wp2_with (first
    | (refine Sh.wp_sv plS (x := ⟨p.line + 1, 1⟩) rfl (.tmp 4) (.tmp 10) rfl rfl (by simp [Act.eval, Sh.val, plS, encP]) q2 ?_; intro w3 q3 b3 o3 s3)
    | (refine Sh.wp_al plS rfl rfl ?_; intro w2 q2 b2 s2; have v2 := v1.keep b2; have c0 : w2.cell? ⟨w.heap.size, 0, none⟩ = some (.int .i64 p.line) := v2.cell (j := 0) rfl; have B2 : Hid (Below w.heap.size w w2) := hid (b1.trans (b2.mono b1.size)); have N2 : Hid (w.heap.size < w1.heap.size) := hid v1.lt; clear b1 b2 s1)
    | (refine Sh.wp_box plS (x := p) rfl (.tmp 0) rfl rfl ?_; intro w1 v1 b1 s1))
  exact bodyPost_ret (results_p (g := w1.heap.size) Tryz.results38 _ rfl q3) rfl ⟨rfl, B2.out.trans (b3.mono (by have := N2.out; omega))⟩
theorem behind_col (p : Pl) (r : Nat) (w : World) (hr : ¬ (r : Int) = 10) (h2 : p.col < 1099511627776) : Calls Tryz.prog 38 #[plV p, .int .i32 r] w fun e w' => e = .returned (plV ⟨p.line, p.col + 1⟩) ∧ Below w.heap.size w w' := by
  go_enter Tryz.func38, Tryz.ntmps38
  go_wp2_with (first
    | (refine Sh.wp_sv plS (x := ⟨p.line, p.col + 1⟩) rfl (.tmp 4) (.tmp 16) rfl rfl (by simp [Act.eval, Sh.val, plS, encP]) q2 ?_; intro w3 q3 b3 o3 s3)
    | (refine Sh.wp_al plS rfl rfl ?_; intro w2 q2 b2 s2; have v2 := v1.keep b2; have c0 : w2.cell? ⟨w.heap.size, 0, none⟩ = some (.int .i64 p.line) := v2.cell (j := 0) rfl; have c1 : w2.cell? ⟨w.heap.size, 1, none⟩ = some (.int .i64 p.col) := v2.cell (j := 1) rfl; have B2 : Hid (Below w.heap.size w w2) := hid (b1.trans (b2.mono b1.size)); have N2 : Hid (w.heap.size < w1.heap.size) := hid v1.lt; clear b1 b2 s1)
    | (refine Sh.wp_box plS (x := p) rfl (.tmp 0) rfl rfl ?_; intro w1 v1 b1 s1))
  exact bodyPost_ret (results_p (g := w1.heap.size) Tryz.results38 _ rfl q3) rfl ⟨rfl, B2.out.trans (b3.mono (by have := N2.out; omega))⟩
theorem behind_any (p : Pl) (r : Nat) (w : World) (h1 : p.line < 1099511627776) (h2 : p.col < 1099511627776) : Calls Tryz.prog 38 #[plV p, .int .i32 r] w fun e w' => e = .returned (plV (behindP p r)) ∧ Below w.heap.size w w' := by
  by_cases h : r = 10
  · subst h
    have e : behindP p 10 = ⟨p.line + 1, 1⟩ := by simp [behindP]
    rw [e]
    exact behind_line p w h1
  · have e : behindP p r = ⟨p.line, p.col + 1⟩ := by simp [behindP, h]
    rw [e]
    exact behind_col p r w (by omega) h2
end Go.Proofs.YtinjhnflnfpoeaaGreatDoor
