/-
  Texts NX of this seat, as far as they are used.
-/
import Derived.Test.YtlgedfljmgedfaaGreatJ28
namespace Go.Proofs.YtlgedfljmgedfaaGreat
open Go Go.RowKit
open M10 (hid Md encm mv mz Oth range_keep there_keep range_other there_other setCells_oth setCells_size there_set Ty enct tv tz Fr encf fv fz)
open O6 (Oc enco ov oz)
open T9 (sv)
/-! ### Wake's closure -/
def wakN (x : Nd) (now : Int) : Nd := if x.ph = 0 then lisN x now else x
def wakL (m : Md) (x : Nd) (now : Int) : List Ac := if x.ph = 0 then [note 1 0, timr (timeT (lisN x now) (lisK x m))] else []
def wakE (m : Md) (x : Nd) (now : Int) : Int := if x.ph = 0 then timeE (lisN x now) (lisK x m) else 0
set_option maxRecDepth 100000 in
set_option maxHeartbeats 1000000 in
theorem wake_c (K : Nat → Prop) (base g cn : Nat) (x : Nd) (m : Md) (now : Int) (w : World) (h : Wk w K base g x m []) (k : NdOk m x) (hc : w.cell? ⟨cn, 0, none⟩ = some (.int .i64 now)) (n0 : 0 ≤ now) (n1 : now ≤ 1152921504606846976) :
    Calls Tryz.prog 31 #[.pointer (some ⟨g, 0, none⟩), .pointer (some ⟨cn, 0, none⟩)] w (RetW K base g (wakN x now) m (wakL m x now) (.int .i64 (wakE m x now)) w) := by
  have H := hid h
  have c1 : w.cell? ⟨g, 1, none⟩ = some (.int .i64 x.ph) := h.cell fun _ _ _ _ _ _ => rfl
  by_cases hp : x.ph = 0
  · rw [show wakN x now = _ from if_pos hp, show wakL m x now = _ from if_pos hp, show wakE m x now = _ from if_pos hp]
    have HL := hid (listen_w K base g x m [] now w h (by simp) k.hm k.i0 k.i1 k.ho n0 n1)
    rw [hp] at c1
    clear h k n0 n1 hp H
    go_enter Tryz.func31, Tryz.ntmps31
    go_wp2_with (first
      | (go_at_call 32; (with_reducible refine HL.out.mono ?_); rintro e w1 ⟨rfl, W1, k1⟩))
    go_ret
    exact ⟨rfl, W1, k1⟩
  · rw [show wakN x now = _ from if_neg hp, show wakL m x now = _ from if_neg hp, show wakE m x now = _ from if_neg hp]
    have e1 : (x.ph != 0) = true := by simpa using hp
    clear h k n0 n1 hp hc
    go_enter Tryz.func31, Tryz.ntmps31
    go_wp2_with fail
    go_ret
    exact ⟨rfl, H.out, Kept.refl _ _⟩
/-! ### Timer's closure -/
/-- It sends: its slot is its own, and it has not sent. -/
def sends (m : Md) (x : Nd) : Prop := x.sl % m.n = x.id ∧ x.se = false
instance (m : Md) (x : Nd) : Decidable (sends m x) := by unfold sends; infer_instance
def timN (m : Md) (x : Nd) (now : Int) : Nd := if x.ph = 1 then staN x now else if ¬ x.ph = 2 then x else if sends m x then sendN x else endN m x
def timL (m : Md) (x : Nd) (now : Int) : List Ac := if x.ph = 1 then [note 2 0, timr (timeT (staN x now) m.l)] else if ¬ x.ph = 2 then [] else if sends m x then sendL m x else endL m x
def timE (m : Md) (x : Nd) (now : Int) : Int := if x.ph = 1 then timeE (staN x now) m.l else if ¬ x.ph = 2 then 0 else if sends m x then sendE m x else endE m x
set_option maxRecDepth 100000 in
set_option maxHeartbeats 1000000 in
theorem timer_listen (K : Nat → Prop) (base g cn : Nat) (x : Nd) (m : Md) (now : Int) (w : World) (h : Wk w K base g x m []) (k : NdOk m x) (hc : w.cell? ⟨cn, 0, none⟩ = some (.int .i64 now)) (n0 : 0 ≤ now) (n1 : now ≤ 1152921504606846976) (hp : x.ph = 1) :
    Calls Tryz.prog 37 #[.pointer (some ⟨g, 0, none⟩), .pointer (some ⟨cn, 0, none⟩)] w (RetW K base g (staN x now) m [note 2 0, timr (timeT (staN x now) m.l)] (.int .i64 (timeE (staN x now) m.l)) w) := by
  have H := hid h
  have c1 : w.cell? ⟨g, 1, none⟩ = some (.int .i64 x.ph) := h.cell fun _ _ _ _ _ _ => rfl
  have HL := hid (start_w K base g x m [] now w h (by simp) k.hm k.i0 k.i1 k.ho n0 n1)
  rw [hp] at c1
  clear h k n0 n1 hp H
  go_enter Tryz.func37, Tryz.ntmps37
  go_wp2_with (first
    | (go_at_call 38; (with_reducible refine HL.out.mono ?_); rintro e w1 ⟨rfl, W1, k1⟩))
  go_ret
  exact ⟨rfl, W1, k1⟩
set_option maxRecDepth 100000 in
set_option maxHeartbeats 1000000 in
theorem timer_idle (K : Nat → Prop) (base g cn : Nat) (x : Nd) (m : Md) (_now : Int) (w : World) (h : Wk w K base g x m []) (_k : NdOk m x) (h1 : ¬ x.ph = 1) (h2 : ¬ x.ph = 2) :
    Calls Tryz.prog 37 #[.pointer (some ⟨g, 0, none⟩), .pointer (some ⟨cn, 0, none⟩)] w (RetW K base g x m [] (.int .i64 0) w) := by
  have H := hid h
  have c1 : w.cell? ⟨g, 1, none⟩ = some (.int .i64 x.ph) := h.cell fun _ _ _ _ _ _ => rfl
  have e1 : (x.ph == 1) = false := by simpa using h1
  have e2 : (x.ph != 2) = true := by simpa using h2
  clear h _k h1 h2
  go_enter Tryz.func37, Tryz.ntmps37
  go_wp2_with fail
  go_ret
  exact ⟨rfl, H.out, Kept.refl _ _⟩
set_option maxRecDepth 100000 in
set_option maxHeartbeats 1000000 in
theorem timer_send (K : Nat → Prop) (base g cn : Nat) (x : Nd) (m : Md) (_now : Int) (w : World) (h : Wk w K base g x m []) (k : NdOk m x) (hp : x.ph = 2) (hO : x.sl % m.n = x.id) (hs : x.se = false) :
    Calls Tryz.prog 37 #[.pointer (some ⟨g, 0, none⟩), .pointer (some ⟨cn, 0, none⟩)] w (RetW K base g (sendN x) m (sendL m x) (.int .i64 (sendE m x)) w) := by
  have H := hid h
  have c1 : w.cell? ⟨g, 1, none⟩ = some (.int .i64 x.ph) := h.cell fun _ _ _ _ _ _ => rfl
  rw [hp] at c1
  have T0 := hid (fun (d : Nat) (os : Array Obj) => Calls.regrown_of (d := d) (os := os) (owner_w K base g x m [] (Sort.grow (redrawn w d) os) (H.out.below (below_regrown w d os)) k.hm k.s0 k.s1))
  have c0 : Hid (w.cell? ⟨g, 0, none⟩ = some (.int .i64 x.id)) := hid (h.cell fun _ _ _ _ _ _ => rfl)
  have c12 : Hid (w.cell? ⟨g, 12, none⟩ = some (.bool x.se)) := hid (h.cell fun _ _ _ _ _ _ => rfl)
  rw [hs] at c12
  have e1 : (x.sl % m.n == x.id) = true := by simpa using hO
  have HS := hid (fun (w1 : World) (h : Wk w1 K base g x m []) => send_any K base g x m [] w1 h (by simp) k)
  clear hO hs
  clear h k hp
  generalize x.sl % m.n = O at *
  go_enter Tryz.func37, Tryz.ntmps37
  go_wp2_with fail
  refine wp_region_quiet_below (by kernel_rfl) (by kernel_rfl) ?_
  repeat (first | go_big_quiet_skip | refine wpQuiet_gl1 3 rfl rfl rfl Tryz.isAgg3 c0.out ?_ | refine wpQuiet_gl1 4 rfl rfl rfl Tryz.isAgg4 c12.out ?_ | quiet_step (with_reducible exact T0.out _ _))
  refine wpQuiet_nil ?_
  intro _ hw'
  obtain ⟨⟨dq, osq⟩, hw''⟩ := hw'
  subst hw''
  have W1 := hid (H.out.below (below_regrown w dq osq))
  have K1 := hid (H.out.keptb (below_regrown w dq osq))
  generalize Sort.grow (redrawn w dq) osq = w1 at *
  clear c0 c12 T0 H c1
  go_wp2_with (first
    | (go_at_call 40; (with_reducible refine (HS.out w1 W1.out).mono ?_); rintro e w2 ⟨rfl, W2, k2⟩))
  go_ret
  exact ⟨rfl, W2, K1.out.trans k2⟩
set_option maxRecDepth 100000 in
set_option maxHeartbeats 1000000 in
theorem timer_ends (K : Nat → Prop) (base g cn : Nat) (x : Nd) (m : Md) (_now : Int) (w : World) (h : Wk w K base g x m []) (k : NdOk m x) (hp : x.ph = 2) (hO : x.sl % m.n = x.id) (hs : x.se = true) :
    Calls Tryz.prog 37 #[.pointer (some ⟨g, 0, none⟩), .pointer (some ⟨cn, 0, none⟩)] w (RetW K base g (endN m x) m (endL m x) (.int .i64 (endE m x)) w) := by
  have H := hid h
  have c1 : w.cell? ⟨g, 1, none⟩ = some (.int .i64 x.ph) := h.cell fun _ _ _ _ _ _ => rfl
  rw [hp] at c1
  have T0 := hid (fun (d : Nat) (os : Array Obj) => Calls.regrown_of (d := d) (os := os) (owner_w K base g x m [] (Sort.grow (redrawn w d) os) (H.out.below (below_regrown w d os)) k.hm k.s0 k.s1))
  have c0 : Hid (w.cell? ⟨g, 0, none⟩ = some (.int .i64 x.id)) := hid (h.cell fun _ _ _ _ _ _ => rfl)
  have c12 : Hid (w.cell? ⟨g, 12, none⟩ = some (.bool x.se)) := hid (h.cell fun _ _ _ _ _ _ => rfl)
  rw [hs] at c12
  have e1 : (x.sl % m.n == x.id) = true := by simpa using hO
  have HS := hid (fun (w1 : World) (h : Wk w1 K base g x m []) => end_any K base g x m [] w1 h (by simp) k)
  clear hO hs
  clear h k hp
  generalize x.sl % m.n = O at *
  go_enter Tryz.func37, Tryz.ntmps37
  go_wp2_with fail
  refine wp_region_quiet_below (by kernel_rfl) (by kernel_rfl) ?_
  repeat (first | go_big_quiet_skip | refine wpQuiet_gl1 3 rfl rfl rfl Tryz.isAgg3 c0.out ?_ | refine wpQuiet_gl1 4 rfl rfl rfl Tryz.isAgg4 c12.out ?_ | quiet_step (with_reducible exact T0.out _ _))
  refine wpQuiet_nil ?_
  intro _ hw'
  obtain ⟨⟨dq, osq⟩, hw''⟩ := hw'
  subst hw''
  have W1 := hid (H.out.below (below_regrown w dq osq))
  have K1 := hid (H.out.keptb (below_regrown w dq osq))
  generalize Sort.grow (redrawn w dq) osq = w1 at *
  clear c0 c12 T0 H c1
  go_wp2_with (first
    | (go_at_call 41; (with_reducible refine (HS.out w1 W1.out).mono ?_); rintro e w2 ⟨rfl, W2, k2⟩))
  go_ret
  exact ⟨rfl, W2, K1.out.trans k2⟩
set_option maxRecDepth 100000 in
set_option maxHeartbeats 1000000 in
theorem timer_other (K : Nat → Prop) (base g cn : Nat) (x : Nd) (m : Md) (_now : Int) (w : World) (h : Wk w K base g x m []) (k : NdOk m x) (hp : x.ph = 2) (hO : ¬ x.sl % m.n = x.id) :
    Calls Tryz.prog 37 #[.pointer (some ⟨g, 0, none⟩), .pointer (some ⟨cn, 0, none⟩)] w (RetW K base g (endN m x) m (endL m x) (.int .i64 (endE m x)) w) := by
  have H := hid h
  have c1 : w.cell? ⟨g, 1, none⟩ = some (.int .i64 x.ph) := h.cell fun _ _ _ _ _ _ => rfl
  rw [hp] at c1
  have T0 := hid (fun (d : Nat) (os : Array Obj) => Calls.regrown_of (d := d) (os := os) (owner_w K base g x m [] (Sort.grow (redrawn w d) os) (H.out.below (below_regrown w d os)) k.hm k.s0 k.s1))
  have c0 : Hid (w.cell? ⟨g, 0, none⟩ = some (.int .i64 x.id)) := hid (h.cell fun _ _ _ _ _ _ => rfl)
  have c12 : Hid (w.cell? ⟨g, 12, none⟩ = some (.bool x.se)) := hid (h.cell fun _ _ _ _ _ _ => rfl)
  have e1 : (x.sl % m.n == x.id) = false := by simpa using hO
  have HS := hid (fun (w1 : World) (h : Wk w1 K base g x m []) => end_any K base g x m [] w1 h (by simp) k)
  clear hO
  clear h k hp
  generalize x.sl % m.n = O at *
  go_enter Tryz.func37, Tryz.ntmps37
  go_wp2_with fail
  refine wp_region_quiet_below (by kernel_rfl) (by kernel_rfl) ?_
  repeat (first | go_big_quiet_skip | refine wpQuiet_gl1 3 rfl rfl rfl Tryz.isAgg3 c0.out ?_ | refine wpQuiet_gl1 4 rfl rfl rfl Tryz.isAgg4 c12.out ?_ | quiet_step (with_reducible exact T0.out _ _))
  refine wpQuiet_nil ?_
  intro _ hw'
  obtain ⟨⟨dq, osq⟩, hw''⟩ := hw'
  subst hw''
  have W1 := hid (H.out.below (below_regrown w dq osq))
  have K1 := hid (H.out.keptb (below_regrown w dq osq))
  generalize Sort.grow (redrawn w dq) osq = w1 at *
  clear c0 c12 T0 H c1
  go_wp2_with (first
    | (go_at_call 41; (with_reducible refine (HS.out w1 W1.out).mono ?_); rintro e w2 ⟨rfl, W2, k2⟩))
  go_ret
  exact ⟨rfl, W2, K1.out.trans k2⟩
theorem timer_c (K : Nat → Prop) (base g cn : Nat) (x : Nd) (m : Md) (now : Int) (w : World) (h : Wk w K base g x m []) (k : NdOk m x) (hc : w.cell? ⟨cn, 0, none⟩ = some (.int .i64 now)) (n0 : 0 ≤ now) (n1 : now ≤ 1152921504606846976) :
    Calls Tryz.prog 37 #[.pointer (some ⟨g, 0, none⟩), .pointer (some ⟨cn, 0, none⟩)] w (RetW K base g (timN m x now) m (timL m x now) (.int .i64 (timE m x now)) w) := by
  unfold timN timL timE
  by_cases h1 : x.ph = 1
  · rw [if_pos h1, if_pos h1, if_pos h1]; exact timer_listen K base g cn x m now w h k hc n0 n1 h1
  · rw [if_neg h1, if_neg h1, if_neg h1]
    by_cases h2 : x.ph = 2
    · rw [if_neg (not_not_intro h2), if_neg (not_not_intro h2), if_neg (not_not_intro h2)]
      by_cases hs : sends m x
      · rw [if_pos hs, if_pos hs, if_pos hs]; exact timer_send K base g cn x m now w h k h2 hs.1 hs.2
      · rw [if_neg hs, if_neg hs, if_neg hs]
        by_cases hO : x.sl % m.n = x.id
        · exact timer_ends K base g cn x m now w h k h2 hO (by cases hse : x.se; exact absurd ⟨hO, hse⟩ hs; rfl)
        · exact timer_other K base g cn x m now w h k h2 hO
    · rw [if_pos h2, if_pos h2, if_pos h2]; exact timer_idle K base g cn x m now w h k h1 h2
end Go.Proofs.YtlgedfljmgedfaaGreat
