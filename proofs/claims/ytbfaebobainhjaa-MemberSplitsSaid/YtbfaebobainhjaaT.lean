/-
  member.Count, isCount, Clique and the document's own Clique: what they answer, at every tally and verdict.
-/
import Derived.Test.YtbfaebobainhjaaL
namespace Go.Proofs.Ytbfaebobainhjaa
open Go Go.RowKit Go.Maps
def inc (n : Int) : Int := min (n + 1) 1073741824
theorem inc_in {n : Int} (h : n + 1 ≤ 1073741824) : inc n = n + 1 := by unfold inc; omega
theorem c45_in (g b : Int) (w : World) (h0 : 0 ≤ g) (h1 : g + 1 ≤ 1073741824) : Calls Try.prog 45 #[tv ⟨g, b⟩] w fun e w' => e = .returned (tv ⟨g + 1, b⟩) ∧ Below w.heap.size w w' := by
  go_enter Try.func45, Try.ntmps45
  go_wp2_with (first
    | (refine wpList_svt rfl (.tmp 2) (.tmp 8) rfl rfl rfl v3 ?_; intro w4 v4 b4 o4 s4)
    | (refine wpList_ldt rfl (.tmp 1) rfl rfl u3 ?_)
    | (refine wpList_sg (n := g + 1) rfl (.tmp 7) (.tmp 6) rfl rfl rfl u1 ?_; intro w3 u3 b3 o3 s3; have v3 := v2.other o3 (by have := s1.out; omega))
    | (refine wpList_alt rfl rfl ?_; intro w2 v2 b2 s2; have u1 := v1.keep b2; have c0 : w2.cell? ⟨w.heap.size, 0, none⟩ = some (.int .i64 (g)) := u1.c0; clear v1)
    | (refine wpList_boxt (x := ⟨g, b⟩) rfl (.tmp 0) rfl rfl ?_; intro w1 v1 b1 s1))
  refine bodyPost_ret (w := w4) (results_t Try.results45 _ rfl v4) rfl ?_
  have S1 := s1.out; have S2 := s2.out; have S3 := s3.out
  exact ⟨rfl, ((b1.trans (b2.mono (by omega))).trans b3).trans (b4.mono (by omega))⟩
theorem c45_top (b : Int) (w : World)  : Calls Try.prog 45 #[tv ⟨1073741824, b⟩] w fun e w' => e = .returned (tv ⟨1073741824, b⟩) ∧ Below w.heap.size w w' := by
  go_enter Try.func45, Try.ntmps45
  go_wp2_with (first
    | (refine wpList_svt rfl (.tmp 2) (.tmp 8) rfl rfl rfl v3 ?_; intro w4 v4 b4 o4 s4)
    | (refine wpList_ldt rfl (.tmp 1) rfl rfl u3 ?_)
    | (refine wpList_sg (n := 1073741824) rfl (.tmp 7) (.tmp 6) rfl rfl rfl u1 ?_; intro w3 u3 b3 o3 s3; have v3 := v2.other o3 (by have := s1.out; omega))
    | (refine wpList_alt rfl rfl ?_; intro w2 v2 b2 s2; have u1 := v1.keep b2; have c0 : w2.cell? ⟨w.heap.size, 0, none⟩ = some (.int .i64 (1073741824)) := u1.c0; clear v1)
    | (refine wpList_boxt (x := ⟨1073741824, b⟩) rfl (.tmp 0) rfl rfl ?_; intro w1 v1 b1 s1))
  refine bodyPost_ret (w := w4) (results_t Try.results45 _ rfl v4) rfl ?_
  have S1 := s1.out; have S2 := s2.out; have S3 := s3.out
  exact ⟨rfl, ((b1.trans (b2.mono (by omega))).trans b3).trans (b4.mono (by omega))⟩
theorem c46_in (g b : Int) (w : World) (h0 : 0 ≤ b) (h1 : b + 1 ≤ 1073741824) : Calls Try.prog 46 #[tv ⟨g, b⟩] w fun e w' => e = .returned (tv ⟨g, b + 1⟩) ∧ Below w.heap.size w w' := by
  go_enter Try.func46, Try.ntmps46
  go_wp2_with (first
    | (refine wpList_svt rfl (.tmp 2) (.tmp 8) rfl rfl rfl v3 ?_; intro w4 v4 b4 o4 s4)
    | (refine wpList_ldt rfl (.tmp 1) rfl rfl u3 ?_)
    | (refine wpList_sb (n := b + 1) rfl (.tmp 7) (.tmp 6) rfl rfl rfl u1 ?_; intro w3 u3 b3 o3 s3; have v3 := v2.other o3 (by have := s1.out; omega))
    | (refine wpList_alt rfl rfl ?_; intro w2 v2 b2 s2; have u1 := v1.keep b2; have c0 : w2.cell? ⟨w.heap.size, 1, none⟩ = some (.int .i64 (b)) := u1.c1; clear v1)
    | (refine wpList_boxt (x := ⟨g, b⟩) rfl (.tmp 0) rfl rfl ?_; intro w1 v1 b1 s1))
  refine bodyPost_ret (w := w4) (results_t Try.results46 _ rfl v4) rfl ?_
  have S1 := s1.out; have S2 := s2.out; have S3 := s3.out
  exact ⟨rfl, ((b1.trans (b2.mono (by omega))).trans b3).trans (b4.mono (by omega))⟩
theorem c46_top (g : Int) (w : World)  : Calls Try.prog 46 #[tv ⟨g, 1073741824⟩] w fun e w' => e = .returned (tv ⟨g, 1073741824⟩) ∧ Below w.heap.size w w' := by
  go_enter Try.func46, Try.ntmps46
  go_wp2_with (first
    | (refine wpList_svt rfl (.tmp 2) (.tmp 8) rfl rfl rfl v3 ?_; intro w4 v4 b4 o4 s4)
    | (refine wpList_ldt rfl (.tmp 1) rfl rfl u3 ?_)
    | (refine wpList_sb (n := 1073741824) rfl (.tmp 7) (.tmp 6) rfl rfl rfl u1 ?_; intro w3 u3 b3 o3 s3; have v3 := v2.other o3 (by have := s1.out; omega))
    | (refine wpList_alt rfl rfl ?_; intro w2 v2 b2 s2; have u1 := v1.keep b2; have c0 : w2.cell? ⟨w.heap.size, 1, none⟩ = some (.int .i64 (1073741824)) := u1.c1; clear v1)
    | (refine wpList_boxt (x := ⟨g, 1073741824⟩) rfl (.tmp 0) rfl rfl ?_; intro w1 v1 b1 s1))
  refine bodyPost_ret (w := w4) (results_t Try.results46 _ rfl v4) rfl ?_
  have S1 := s1.out; have S2 := s2.out; have S3 := s3.out
  exact ⟨rfl, ((b1.trans (b2.mono (by omega))).trans b3).trans (b4.mono (by omega))⟩
theorem c45_any (x : Ty) (w : World) (h1 : 0 ≤ x.g) (h2 : x.g ≤ 1073741824) : Calls Try.prog 45 #[tv x] w fun e w' => e = .returned (tv ⟨inc x.g, x.b⟩) ∧ Below w.heap.size w w' := by
  obtain ⟨g, b⟩ := x
  simp only at h1 h2 ⊢
  by_cases h : g + 1 ≤ 1073741824
  · rw [inc_in h]; exact c45_in g b w h1 h
  · obtain rfl : g = 1073741824 := by omega
    exact c45_top b w
theorem c46_any (x : Ty) (w : World) (h1 : 0 ≤ x.b) (h2 : x.b ≤ 1073741824) : Calls Try.prog 46 #[tv x] w fun e w' => e = .returned (tv ⟨x.g, inc x.b⟩) ∧ Below w.heap.size w w' := by
  obtain ⟨g, b⟩ := x
  simp only at h1 h2 ⊢
  by_cases h : b + 1 ≤ 1073741824
  · rw [inc_in h]; exact c46_in g b w h1 h
  · obtain rfl : b = 1073741824 := by omega
    exact c46_top g w
theorem c47_any (x : Ty) (w : World) : Calls Try.prog 47 #[tv x] w fun e w' => e = .returned (tv x) ∧ Below w.heap.size w w' := by
  go_enter Try.func47, Try.ntmps47
  go_wp2_with (first
    | (refine wpList_svt rfl (.tmp 2) (.tmp 3) rfl rfl rfl v2 ?_; intro w3 v3 b3 o3 s3)
    | (refine wpList_ldt rfl (.tmp 1) rfl rfl u2 ?_)
    | (refine wpList_alt rfl rfl ?_; intro w2 v2 b2 s2; have u2 := v1.keep b2)
    | (refine wpList_boxt (x := x) rfl (.tmp 0) rfl rfl ?_; intro w1 v1 b1 s1))
  refine bodyPost_ret (w := w3) (results_t Try.results47 _ rfl v3) rfl ?_
  have S1 := s1.out; have S2 := s2.out
  exact ⟨rfl, (b1.trans (b2.mono (by omega))).trans (b3.mono (by omega))⟩
theorem results_ti {w : World} {g : Nat} {x : Ty} {fn : Func} {p q : Tmp} {u : Value} (h : fn.results = #[.cell p 29, .tmp q]) (tmps : Array Value) (hp : tmps.getD p undef = .pointer (some ⟨g, 0, none⟩)) (hq : tmps.getD q undef = u) (hx : VarT w g x) :
    (results fn tmps).run Try.prog w = .ok (.tuple #[tv x, u]) w := by
  have := ldtv hx
  have hp' : tmps[p]?.getD undef = .pointer (some ⟨g, 0, none⟩) := by simpa using hp
  have hq' : tmps[q]?.getD undef = u := by simpa using hq
  simp only [results, h]
  simp [hp', hq', this, asAddr]
theorem results_iti {w : World} {g : Nat} {x : Ty} {fn : Func} {p q r : Tmp} {u v : Value} (h : fn.results = #[.tmp r, .cell p 29, .tmp q]) (tmps : Array Value) (hp : tmps.getD p undef = .pointer (some ⟨g, 0, none⟩)) (hq : tmps.getD q undef = u) (hr : tmps.getD r undef = v) (hx : VarT w g x) :
    (results fn tmps).run Try.prog w = .ok (.tuple #[v, tv x, u]) w := by
  have := ldtv hx
  have hp' : tmps[p]?.getD undef = .pointer (some ⟨g, 0, none⟩) := by simpa using hp
  have hq' : tmps[q]?.getD undef = u := by simpa using hq
  have hr' : tmps[r]?.getD undef = v := by simpa using hr
  simp only [results, h]
  simp [hp', hq', hr', this, asAddr]
/-- A number that a tally may tell; a verdict; a tally; what Count answers. -/
def OkN (n : Int) : Prop := 0 ≤ n ∧ n ≤ 1073741824
def OkV (v : Int) : Prop := 0 ≤ v ∧ v ≤ 3
def OkT (t : Ty) : Prop := OkN t.g ∧ OkN t.b
instance (n : Int) : Decidable (OkN n) := by unfold OkN; infer_instance
instance (v : Int) : Decidable (OkV v) := by unfold OkV; infer_instance
instance (t : Ty) : Decidable (OkT t) := by unfold OkT; infer_instance
def cnt (t : Ty) (v : Int) : Ty := if v = 1 ∨ v = 2 then ⟨inc t.g, t.b⟩ else if v = 3 then ⟨t.g, inc t.b⟩ else t
def cntT (t : Ty) (v : Int) : Ty := if OkV v ∧ OkT t then cnt t v else tz
def cntE (t : Ty) (v : Int) : Int := if OkV v ∧ OkT t then 0 else 1
theorem isCount_yes (n : Int) (h : OkN n) (w : World) : Calls Try.prog 36 #[.int .i64 n] w fun e w' => e = .returned (.bool true) ∧ w = w' := by
  obtain ⟨h1, h2⟩ := h
  go_enter Try.func36, Try.ntmps36
  go_wp2_with fail
  go_ret
  exact ⟨ret_bool (by first | rfl | simp [h2]), rfl⟩
theorem isCount_no (n : Int) (h : ¬ OkN n) (w : World) : Calls Try.prog 36 #[.int .i64 n] w fun e w' => e = .returned (.bool false) ∧ w = w' := by
  unfold OkN at h
  by_cases h0 : 0 ≤ n
  · have h1 : ¬ n ≤ 1073741824 := by omega
    clear h
    go_enter Try.func36, Try.ntmps36
    go_wp2_with fail
    go_ret
    exact ⟨ret_bool (by first | rfl | simp; omega), rfl⟩
  · clear h
    go_enter Try.func36, Try.ntmps36
    go_wp2_with fail
    go_ret
    exact ⟨ret_bool (by first | rfl | simp), rfl⟩
/-- What Count gives. -/
def RetT (x : Ty) (E : Int) (w : World) (e : Ending) (w' : World) : Prop := e = .returned (.tuple #[tv x, .int .i64 E]) ∧ Below w.heap.size w w'
theorem count_noV (x : Ty) (v : Int) (w : World) (hk : KeyI v) (h : v < 0 ∨ 3 < v) : Calls Try.prog 15 #[tv x, .int .i64 v] w (RetT tz 1 w) := by
  have HF := hid (fun a b c d => fnd_no a b c d v h)
  have HK := hid hk
  have HC := hid counts_any
  clear h hk
  go_enter Try.func15, Try.ntmps15
  go_wp2_with (first
    | (refine wpList_svt (x := tz) rfl (.tmp 4) (.tmp 28) rfl rfl rfl v3 ?_; intro w4 v4 b4 o4 s4)
    | (refine wpList_lk rfl (.tmp 9) (.tmp 10) rfl Try.underlying65 .nilFunc rfl rfl m3 HK.out (HF.out _ _ _ _) (zero63 _) ?_)
    | (go_at_call 35; refine (HC.out _).mono ?_; rintro e w3 ⟨B3, n3, rfl, m3, b3⟩; have v3 := v2.keep b3)
    | (refine wpList_alt rfl rfl ?_; intro w2 v2 b2 s2)
    | (refine wpList_boxt (x := x) rfl (.tmp 0) rfl rfl ?_; intro w1 v1 b1 s1))
  refine bodyPost_ret (w := w4) (results_ti Try.results15 _ rfl rfl v4) rfl ?_
  have S1 := s1.out; have S2 := s2.out; have S3 := b3.size
  exact ⟨rfl, ((b1.trans (b2.mono (by omega))).trans (b3.mono (by omega))).trans (b4.mono (by omega))⟩
theorem count_noG (g b : Int) (v : Int) (w : World) (hk : KeyI v) (h : ¬ OkN g) (hf : ∀ a b c d, ∃ i u, fnd v (es4 a b c d).toList = some (some (i, u))) : Calls Try.prog 15 #[tv ⟨g, b⟩, .int .i64 v] w (RetT tz 1 w) := by
  have HF := hid hf
  have HK := hid hk
  have HC := hid counts_any
  have HG := hid (fun w => isCount_no g h w)
  clear h hk hf
  go_enter Try.func15, Try.ntmps15
  go_wp2_with (first
    | (refine wpList_svt (x := tz) rfl (.tmp 4) (.tmp 28) rfl rfl rfl v3 ?_; intro w4 v4 b4 o4 s4)
    | (go_at_call 36; refine (HG.out _).mono ?_; rintro e w' ⟨rfl, rfl⟩)
    | (refine wpList_lk rfl (.tmp 9) (.tmp 10) rfl Try.underlying65 .nilFunc rfl rfl m3 HK.out F3 (zero63 _) ?_)
    | (go_at_call 35; refine (HC.out _).mono ?_; rintro e w3 ⟨B3, n3, rfl, m3, b3⟩; have v3 := v2.keep b3; obtain ⟨i3, u3, F3⟩ := HF.out (.func (.func 47) #[] #[]) (.func (.func 45) #[] #[]) (.func (.func 45) #[] #[]) (.func (.func 46) #[] #[]); have c0 : w3.cell? ⟨w.heap.size, 0, none⟩ = some (.int .i64 g) := ((v1.keep b2).keep b3).c0)
    | (refine wpList_alt rfl rfl ?_; intro w2 v2 b2 s2)
    | (refine wpList_boxt (x := ⟨g, b⟩) rfl (.tmp 0) rfl rfl ?_; intro w1 v1 b1 s1))
  refine bodyPost_ret (w := w4) (results_ti Try.results15 _ rfl rfl v4) rfl ?_
  have S1 := s1.out; have S2 := s2.out; have S3 := b3.size
  exact ⟨rfl, ((b1.trans (b2.mono (by omega))).trans (b3.mono (by omega))).trans (b4.mono (by omega))⟩
theorem count_noB (g b : Int) (v : Int) (w : World) (hk : KeyI v) (h0 : OkN g) (h : ¬ OkN b) (hf : ∀ a b c d, ∃ i u, fnd v (es4 a b c d).toList = some (some (i, u))) : Calls Try.prog 15 #[tv ⟨g, b⟩, .int .i64 v] w (RetT tz 1 w) := by
  have HF := hid hf
  have HK := hid hk
  have HC := hid counts_any
  have HG := hid (fun w => isCount_yes g h0 w)
  have HB := hid (fun w => isCount_no b h w)
  clear h hk hf h0
  go_enter Try.func15, Try.ntmps15
  go_wp2_with (first
    | (refine wpList_svt (x := tz) rfl (.tmp 4) (.tmp 28) rfl rfl rfl v3 ?_; intro w4 v4 b4 o4 s4)
    | (go_at_call 36; (with_reducible refine (HG.out w3).mono ?_); rintro e w' ⟨rfl, rfl⟩)
    | (go_at_call 36; (with_reducible refine (HB.out w3).mono ?_); rintro e w' ⟨rfl, rfl⟩)
    | (refine wpList_lk rfl (.tmp 9) (.tmp 10) rfl Try.underlying65 .nilFunc rfl rfl m3 HK.out F3 (zero63 _) ?_)
    | (go_at_call 35; refine (HC.out _).mono ?_; rintro e w3 ⟨B3, n3, rfl, m3, b3⟩; have v3 := v2.keep b3; obtain ⟨i3, u3, F3⟩ := HF.out (.func (.func 47) #[] #[]) (.func (.func 45) #[] #[]) (.func (.func 45) #[] #[]) (.func (.func 46) #[] #[]); have c0 : w3.cell? ⟨w.heap.size, 0, none⟩ = some (.int .i64 g) := ((v1.keep b2).keep b3).c0; have c1 : w3.cell? ⟨w.heap.size, 1, none⟩ = some (.int .i64 b) := ((v1.keep b2).keep b3).c1)
    | (refine wpList_alt rfl rfl ?_; intro w2 v2 b2 s2)
    | (refine wpList_boxt (x := ⟨g, b⟩) rfl (.tmp 0) rfl rfl ?_; intro w1 v1 b1 s1))
  refine bodyPost_ret (w := w4) (results_ti Try.results15 _ rfl rfl v4) rfl ?_
  have S1 := s1.out; have S2 := s2.out; have S3 := b3.size
  exact ⟨rfl, ((b1.trans (b2.mono (by omega))).trans (b3.mono (by omega))).trans (b4.mono (by omega))⟩
theorem count_ok45 (g b : Int) (v : Int) (y : Ty) (i : Nat) (w : World) (hk : KeyI v) (h0 : OkN g) (h : OkN b) (hf : fnd v (es4 (.func (.func 47) #[] #[]) (.func (.func 45) #[] #[]) (.func (.func 45) #[] #[]) (.func (.func 46) #[] #[])).toList = some (some (i, .func (.func 45) #[] #[])))
    (hc : ∀ w, Calls Try.prog 45 #[tv ⟨g, b⟩] w fun e w' => e = .returned (tv y) ∧ Below w.heap.size w w') : Calls Try.prog 15 #[tv ⟨g, b⟩, .int .i64 v] w (RetT y 0 w) := by
  have HF := hid hf
  have HK := hid hk
  have HC := hid counts_any
  have HG := hid (fun w => isCount_yes g h0 w)
  have HB := hid (fun w => isCount_yes b h w)
  have HD := hid hc
  clear h hk hf h0 hc
  go_enter Try.func15, Try.ntmps15
  go_wp2_with (first
    | (refine wpList_svt rfl (.tmp 4) (.tmp 31) rfl rfl rfl v4 ?_; intro w5 v5 b5 o5 s5)
    | (refine wpList_ldt rfl (.tmp 2) rfl rfl u3 ?_)
    | (go_at_call 36; (with_reducible refine (HG.out w3).mono ?_); rintro e w' ⟨rfl, rfl⟩)
    | (go_at_call 36; (with_reducible refine (HB.out w3).mono ?_); rintro e w' ⟨rfl, rfl⟩)
    | (go_at_call 45; refine (HD.out _).mono ?_; rintro e w4 ⟨rfl, b4⟩; have v4 := v3.keep b4)
    | (refine wpList_lk rfl (.tmp 9) (.tmp 10) rfl Try.underlying65 .nilFunc rfl rfl m3 HK.out HF.out (zero63 _) ?_)
    | (go_at_call 35; refine (HC.out _).mono ?_; rintro e w3 ⟨B3, n3, rfl, m3, b3⟩; have v3 := v2.keep b3; have u3 := (v1.keep b2).keep b3; have c0 : w3.cell? ⟨w.heap.size, 0, none⟩ = some (.int .i64 g) := ((v1.keep b2).keep b3).c0; have c1 : w3.cell? ⟨w.heap.size, 1, none⟩ = some (.int .i64 b) := ((v1.keep b2).keep b3).c1)
    | (refine wpList_alt rfl rfl ?_; intro w2 v2 b2 s2)
    | (refine wpList_boxt (x := ⟨g, b⟩) rfl (.tmp 0) rfl rfl ?_; intro w1 v1 b1 s1))
  refine bodyPost_ret (w := w5) (results_ti Try.results15 _ rfl rfl v5) rfl ?_
  have S1 := s1.out; have S2 := s2.out; have S3 := b3.size; have S4 := b4.size
  exact ⟨rfl, (((b1.trans (b2.mono (by omega))).trans (b3.mono (by omega))).trans (b4.mono (by omega))).trans (b5.mono (by omega))⟩
theorem count_ok46 (g b : Int) (v : Int) (y : Ty) (i : Nat) (w : World) (hk : KeyI v) (h0 : OkN g) (h : OkN b) (hf : fnd v (es4 (.func (.func 47) #[] #[]) (.func (.func 45) #[] #[]) (.func (.func 45) #[] #[]) (.func (.func 46) #[] #[])).toList = some (some (i, .func (.func 46) #[] #[])))
    (hc : ∀ w, Calls Try.prog 46 #[tv ⟨g, b⟩] w fun e w' => e = .returned (tv y) ∧ Below w.heap.size w w') : Calls Try.prog 15 #[tv ⟨g, b⟩, .int .i64 v] w (RetT y 0 w) := by
  have HF := hid hf
  have HK := hid hk
  have HC := hid counts_any
  have HG := hid (fun w => isCount_yes g h0 w)
  have HB := hid (fun w => isCount_yes b h w)
  have HD := hid hc
  clear h hk hf h0 hc
  go_enter Try.func15, Try.ntmps15
  go_wp2_with (first
    | (refine wpList_svt rfl (.tmp 4) (.tmp 31) rfl rfl rfl v4 ?_; intro w5 v5 b5 o5 s5)
    | (refine wpList_ldt rfl (.tmp 2) rfl rfl u3 ?_)
    | (go_at_call 36; (with_reducible refine (HG.out w3).mono ?_); rintro e w' ⟨rfl, rfl⟩)
    | (go_at_call 36; (with_reducible refine (HB.out w3).mono ?_); rintro e w' ⟨rfl, rfl⟩)
    | (go_at_call 46; refine (HD.out _).mono ?_; rintro e w4 ⟨rfl, b4⟩; have v4 := v3.keep b4)
    | (refine wpList_lk rfl (.tmp 9) (.tmp 10) rfl Try.underlying65 .nilFunc rfl rfl m3 HK.out HF.out (zero63 _) ?_)
    | (go_at_call 35; refine (HC.out _).mono ?_; rintro e w3 ⟨B3, n3, rfl, m3, b3⟩; have v3 := v2.keep b3; have u3 := (v1.keep b2).keep b3; have c0 : w3.cell? ⟨w.heap.size, 0, none⟩ = some (.int .i64 g) := ((v1.keep b2).keep b3).c0; have c1 : w3.cell? ⟨w.heap.size, 1, none⟩ = some (.int .i64 b) := ((v1.keep b2).keep b3).c1)
    | (refine wpList_alt rfl rfl ?_; intro w2 v2 b2 s2)
    | (refine wpList_boxt (x := ⟨g, b⟩) rfl (.tmp 0) rfl rfl ?_; intro w1 v1 b1 s1))
  refine bodyPost_ret (w := w5) (results_ti Try.results15 _ rfl rfl v5) rfl ?_
  have S1 := s1.out; have S2 := s2.out; have S3 := b3.size; have S4 := b4.size
  exact ⟨rfl, (((b1.trans (b2.mono (by omega))).trans (b3.mono (by omega))).trans (b4.mono (by omega))).trans (b5.mono (by omega))⟩
theorem count_ok47 (g b : Int) (v : Int) (y : Ty) (i : Nat) (w : World) (hk : KeyI v) (h0 : OkN g) (h : OkN b) (hf : fnd v (es4 (.func (.func 47) #[] #[]) (.func (.func 45) #[] #[]) (.func (.func 45) #[] #[]) (.func (.func 46) #[] #[])).toList = some (some (i, .func (.func 47) #[] #[])))
    (hc : ∀ w, Calls Try.prog 47 #[tv ⟨g, b⟩] w fun e w' => e = .returned (tv y) ∧ Below w.heap.size w w') : Calls Try.prog 15 #[tv ⟨g, b⟩, .int .i64 v] w (RetT y 0 w) := by
  have HF := hid hf
  have HK := hid hk
  have HC := hid counts_any
  have HG := hid (fun w => isCount_yes g h0 w)
  have HB := hid (fun w => isCount_yes b h w)
  have HD := hid hc
  clear h hk hf h0 hc
  go_enter Try.func15, Try.ntmps15
  go_wp2_with (first
    | (refine wpList_svt rfl (.tmp 4) (.tmp 31) rfl rfl rfl v4 ?_; intro w5 v5 b5 o5 s5)
    | (refine wpList_ldt rfl (.tmp 2) rfl rfl u3 ?_)
    | (go_at_call 36; (with_reducible refine (HG.out w3).mono ?_); rintro e w' ⟨rfl, rfl⟩)
    | (go_at_call 36; (with_reducible refine (HB.out w3).mono ?_); rintro e w' ⟨rfl, rfl⟩)
    | (go_at_call 47; refine (HD.out _).mono ?_; rintro e w4 ⟨rfl, b4⟩; have v4 := v3.keep b4)
    | (refine wpList_lk rfl (.tmp 9) (.tmp 10) rfl Try.underlying65 .nilFunc rfl rfl m3 HK.out HF.out (zero63 _) ?_)
    | (go_at_call 35; refine (HC.out _).mono ?_; rintro e w3 ⟨B3, n3, rfl, m3, b3⟩; have v3 := v2.keep b3; have u3 := (v1.keep b2).keep b3; have c0 : w3.cell? ⟨w.heap.size, 0, none⟩ = some (.int .i64 g) := ((v1.keep b2).keep b3).c0; have c1 : w3.cell? ⟨w.heap.size, 1, none⟩ = some (.int .i64 b) := ((v1.keep b2).keep b3).c1)
    | (refine wpList_alt rfl rfl ?_; intro w2 v2 b2 s2)
    | (refine wpList_boxt (x := ⟨g, b⟩) rfl (.tmp 0) rfl rfl ?_; intro w1 v1 b1 s1))
  refine bodyPost_ret (w := w5) (results_ti Try.results15 _ rfl rfl v5) rfl ?_
  have S1 := s1.out; have S2 := s2.out; have S3 := b3.size; have S4 := b4.size
  exact ⟨rfl, (((b1.trans (b2.mono (by omega))).trans (b3.mono (by omega))).trans (b4.mono (by omega))).trans (b5.mono (by omega))⟩
theorem count_any (x : Ty) (v : Int) (w : World) (hk : KeyI v) : Calls Try.prog 15 #[tv x, .int .i64 v] w (RetT (cntT x v) (cntE x v) w) := by
  obtain ⟨g, b⟩ := x
  by_cases hv : OkV v
  · have hf : ∀ a b c d, ∃ i u, fnd v (es4 a b c d).toList = some (some (i, u)) := by
      intro a b c d
      unfold OkV at hv
      obtain rfl | rfl | rfl | rfl : v = 0 ∨ v = 1 ∨ v = 2 ∨ v = 3 := by omega
      · exact ⟨_, _, fnd0 a b c d⟩
      · exact ⟨_, _, fnd1 a b c d⟩
      · exact ⟨_, _, fnd2 a b c d⟩
      · exact ⟨_, _, fnd3 a b c d⟩
    by_cases hg : OkN g
    · by_cases hb : OkN b
      · have e1 : cntT ⟨g, b⟩ v = cnt ⟨g, b⟩ v := if_pos ⟨hv, hg, hb⟩
        have e2 : cntE ⟨g, b⟩ v = 0 := if_pos ⟨hv, hg, hb⟩
        rw [e1, e2]
        unfold OkV at hv
        obtain rfl | rfl | rfl | rfl : v = 0 ∨ v = 1 ∨ v = 2 ∨ v = 3 := by omega
        · exact count_ok47 g b 0 _ _ w hk hg hb (fnd0 _ _ _ _) (fun w => c47_any _ w)
        · exact count_ok45 g b 1 _ _ w hk hg hb (fnd1 _ _ _ _) (fun w => c45_any _ w hg.1 hg.2)
        · exact count_ok45 g b 2 _ _ w hk hg hb (fnd2 _ _ _ _) (fun w => c45_any _ w hg.1 hg.2)
        · exact count_ok46 g b 3 _ _ w hk hg hb (fnd3 _ _ _ _) (fun w => c46_any _ w hb.1 hb.2)
      · have e1 : cntT ⟨g, b⟩ v = tz := if_neg fun h => hb h.2.2
        have e2 : cntE ⟨g, b⟩ v = 1 := if_neg fun h => hb h.2.2
        rw [e1, e2]; exact count_noB g b v w hk hg hb hf
    · have e1 : cntT ⟨g, b⟩ v = tz := if_neg fun h => hg h.2.1
      have e2 : cntE ⟨g, b⟩ v = 1 := if_neg fun h => hg h.2.1
      rw [e1, e2]; exact count_noG g b v w hk hg hf
  · have e1 : cntT ⟨g, b⟩ v = tz := if_neg fun h => hv h.1
    have e2 : cntE ⟨g, b⟩ v = 1 := if_neg fun h => hv h.1
    rw [e1, e2]; exact count_noV ⟨g, b⟩ v w hk (by unfold OkV at hv; omega)
theorem clique_any (x : Ty) (c : Bool) (hc : decide (0 < x.b ∧ x.g ≤ x.b) = c) (w : World) : Calls Try.prog 17 #[tv x] w fun e w' => e = .returned (.bool c) ∧ Below w.heap.size w w' := by
  obtain ⟨g, b⟩ := x
  simp only at hc
  by_cases h : 0 < b
  · go_enter Try.func17, Try.ntmps17
    go_wp2_with (refine wpList_boxt (x := ⟨g, b⟩) rfl (.tmp 0) rfl rfl ?_; intro w1 v1 b1 s1; have c0 : w1.cell? ⟨w.heap.size, 0, none⟩ = some (.int .i64 g) := v1.c0; have c1 : w1.cell? ⟨w.heap.size, 1, none⟩ = some (.int .i64 b) := v1.c1)
    go_ret
    exact ⟨ret_bool (by rw [← hc]; simp [h]), b1⟩
  · go_enter Try.func17, Try.ntmps17
    go_wp2_with (refine wpList_boxt (x := ⟨g, b⟩) rfl (.tmp 0) rfl rfl ?_; intro w1 v1 b1 s1; have c0 : w1.cell? ⟨w.heap.size, 0, none⟩ = some (.int .i64 g) := v1.c0; have c1 : w1.cell? ⟨w.heap.size, 1, none⟩ = some (.int .i64 b) := v1.c1)
    go_ret
    exact ⟨ret_bool (by rw [← hc, eq_comm, decide_eq_false_iff_not]; omega), b1⟩
theorem refclique_any (x : Ty) (c : Bool) (hc : decide (0 < x.b ∧ x.g ≤ x.b) = c) (w : World) : Calls Try.prog 18 #[tv x] w fun e w' => e = .returned (.bool c) ∧ Below w.heap.size w w' := by
  obtain ⟨g, b⟩ := x
  simp only at hc
  by_cases h : 0 < b
  · go_enter Try.func18, Try.ntmps18
    go_wp2_with (refine wpList_boxt (x := ⟨g, b⟩) rfl (.tmp 0) rfl rfl ?_; intro w1 v1 b1 s1; have c0 : w1.cell? ⟨w.heap.size, 0, none⟩ = some (.int .i64 g) := v1.c0; have c1 : w1.cell? ⟨w.heap.size, 1, none⟩ = some (.int .i64 b) := v1.c1)
    go_ret
    exact ⟨ret_bool (by rw [← hc]; simp [h]), b1⟩
  · go_enter Try.func18, Try.ntmps18
    go_wp2_with (refine wpList_boxt (x := ⟨g, b⟩) rfl (.tmp 0) rfl rfl ?_; intro w1 v1 b1 s1; have c0 : w1.cell? ⟨w.heap.size, 0, none⟩ = some (.int .i64 g) := v1.c0; have c1 : w1.cell? ⟨w.heap.size, 1, none⟩ = some (.int .i64 b) := v1.c1)
    go_ret
    exact ⟨ret_bool (by rw [← hc, eq_comm, decide_eq_false_iff_not]; omega), b1⟩
end Go.Proofs.Ytbfaebobainhjaa
