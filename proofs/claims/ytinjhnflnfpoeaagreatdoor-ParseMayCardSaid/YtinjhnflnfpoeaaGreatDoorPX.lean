/-
  The contract of Parse, at every text: what its tokens are read as, or what is wrong, and where; under: the tables hold what the program lays (LaidW).
-/
import Derived.Test.YtinjhnflnfpoeaaGreatDoorPW
namespace Go.Proofs.YtinjhnflnfpoeaaGreatDoor
open Go Go.RowKit Go.Joins

/-- What Parse tells: statements, or what is wrong, and where. -/
inductive PRes where
  | ok (f : Fo)
  | bad (p : Pl) (e : Nat)
def toksF (l : List UInt8) : List Tk := (cutL l false firstP).1.map (·.1)
def placesF (l : List UInt8) : List Pl := (cutL l false firstP).1.map (·.2)
def parF (l : List UInt8) : PRes :=
  if 65536 < l.length then .bad firstP 6
  else match (cutL l false firstP).2 with
  | some (p, f) => .bad p f
  | none => match allF (toksF l) with
    | .ok f _ _ => .ok f
    | .bad er r => .bad (plS.nth (placesF l ++ [plAt l firstP l.length]) ((toksF l).length - r.length)) er
def PPost (x : PRes) (w : World) (e : Ending) (w' : World) : Prop := Below w.heap.size w w' ∧ match x with
  | .ok f => ∃ A n c, e = .returned (.tuple #[.slice A n c, plV ⟨0, 0⟩, .int .i64 0]) ∧ TrS w' (fun k => w.heap.size ≤ k ∧ k < w'.heap.size) A n f
  | .bad p er => (0 < er ∧ er ≤ 7) ∧ e = .returned (.tuple #[.slice none 0 0, plV p, .int .i64 (er : Nat)])

theorem cutK : ∀ (n : Nat) (l : List UInt8) (rem : Bool) (p : Pl), l.length ≤ n → (∀ q f, (cutL l rem p).2 = some (q, f) → 0 < f ∧ f ≤ 7) ∧ ∀ x ∈ (cutL l rem p).1, x.1.kind = 1 ∨ x.1.kind = 2 ∨ x.1.kind = 3 := by
  have hn1 : ∀ p t, numF p = .ok t → t.kind = 2 := by
    intro p t h
    unfold numF at h
    split at h
    · cases h
    split at h
    · cases h
    split at h
    · split at h
      · cases h; rfl
      · cases h
    · cases h; rfl
  have hn2 : ∀ p f, numF p = .error f → 0 < f ∧ f ≤ 7 := by
    intro p t h
    unfold numF at h
    split at h
    · cases h; decide
    split at h
    · cases h; decide
    split at h
    · split at h
      · cases h
      · cases h; decide
    · cases h
  have ht1 : ∀ p t, tokF p = .ok t → t.kind = 1 ∨ t.kind = 2 ∨ t.kind = 3 := by
    intro p t h
    match p with
    | [] => cases h
    | c :: r =>
      unfold tokF at h
      simp only at h
      split at h
      · cases h; exact .inr (.inr rfl)
      split at h
      · cases h; exact .inl rfl
      split at h
      · cases h
      · exact .inr (.inl (hn1 _ _ h))
  have ht2 : ∀ p f, tokF p = .error f → 0 < f ∧ f ≤ 7 := by
    intro p f h
    match p with
    | [] => cases h; decide
    | c :: r =>
      unfold tokF at h
      simp only at h
      split at h
      · cases h
      split at h
      · cases h
      split at h
      · cases h; decide
      · exact hn2 _ _ h
  intro n
  induction n with
  | zero =>
    intro l rem p h
    have : l = [] := List.eq_nil_of_length_eq_zero (by omega)
    subst this
    rw [cutL]
    exact ⟨fun _ _ h => (by cases h), fun _ h => (by cases h)⟩
  | succ n ih =>
    intro l rem p h
    match l with
    | [] =>
      rw [cutL]
      exact ⟨fun _ _ h => (by cases h), fun _ h => (by cases h)⟩
    | c :: r =>
      have hr : r.length ≤ n := by simpa using h
      have hd : ∀ k, (r.drop k).length ≤ n := fun k => by rw [List.length_drop]; omega
      rw [cutL]
      split
      · exact ⟨fun _ _ h => (by cases h; decide), fun _ h => (by cases h)⟩
      split
      · exact ih _ _ _ (hd _)
      split
      · exact ih _ _ _ (hd _)
      split
      · exact ih _ _ _ (hd _)
      split
      · rename_i e hte
        have := ht2 _ _ hte
        exact ⟨fun _ _ h => (by cases h; exact this), fun _ h => (by cases h)⟩
      · rename_i t hte
        have h1 := ht1 _ _ hte
        have h2 := ih (r.drop ((pieceF (c :: r)).length - 1)) false ⟨p.line, p.col + (pieceF (c :: r)).length⟩ (hd _)
        refine ⟨h2.1, fun x hx => ?_⟩
        rcases List.mem_cons.1 hx with rfl | hx
        · exact h1
        · exact h2.2 x hx
theorem tok_kinds (l : List UInt8) : ∀ t ∈ toksF l, t.kind = 1 ∨ t.kind = 2 ∨ t.kind = 3 := by
  intro t ht
  obtain ⟨x, hx, rfl⟩ := List.mem_map.1 ht
  exact (cutK _ l false firstP (Nat.le_refl _)).2 x hx

theorem results_1p1 {w : World} {g : Nat} {fn : Func} {p q r : Tmp} (h : fn.results = #[.tmp q, .cell p 26, .tmp r]) (tmps : Array Value) (hp : tmps.getD p undef = .pointer (some ⟨g, 0, none⟩)) {x : Pl} (hx : plS.Var w g x) :
    (results fn tmps).run Tryz.prog w = .ok (.tuple #[tmps.getD q undef, plV x, tmps.getD r undef]) w := by
  have : (loadVar 26 ⟨g, 0, none⟩).run Tryz.prog w = .ok (plV x) w := Sh.ldv plS hx.1
  have hp' : tmps[p]?.getD undef = .pointer (some ⟨g, 0, none⟩) := by simpa using hp
  simp only [results, h]
  simp [Result.andThen, hp', this, asAddr]

set_option maxHeartbeats 1000000 in
set_option maxRecDepth 100000 in
theorem parse_cut {s : ByteArray} {w : World} {p : Pl} {f : Nat} (hf : 0 < f ∧ f ≤ 7) (hc : ∀ w1, Below w.heap.size w w1 → Calls Tryz.prog 22 #[.string s] w1 fun e w' => Below w1.heap.size w1 w' ∧ e = .returned (.tuple #[.slice none 0 0, .slice none 0 0, plV p, .int .i64 (f : Nat)])) :
    Calls Tryz.prog 9 #[.string s] w (PPost (.bad p f) w) := by
  have HC := hid hc
  have HF := hid hf
  have hne : ((f : Int) == 0) = false := beq_eq_false_iff_ne.2 (by omega)
  clear hc hf
  go_enter Tryz.func9, Tryz.ntmps9
  go_upto_region 3 with (first
    | (refine Sh.wp_sv plS (x := p) rfl (.tmp 7) (.tmp 18) rfl rfl (by rfl) q3 ?_; intro w4 q4 b4 o4 s4; have V4 := hid (V3.out.other o4 (by have := N3.out; omega)); have Q4 := hid q4; have B4 := hid (B3.out.trans (b4.mono (by have := N3.out; omega))); clear q3 b4 o4 s4 q4)
    | (refine Sh.wp_al plS rfl rfl ?_; intro w3 q3 b3 s3; have V3 := hid (V2.out.keep b3); have N3 := hid (V2.out.lt); have B3 := hid (B2.out.trans (b3.mono B2.out.size)); clear b3 s3)
    | (go_at_call 22; refine (HC.out w1 B1.out).mono ?_; rintro e w2 ⟨b2, rfl⟩; have V2 := hid (V1.out.keep b2); have B2 := hid (B1.out.trans (b2.mono B1.out.size)); clear b2)
    | (refine Sh.wp_al plS rfl rfl ?_; intro w1 v1 b1 s1; have V1 := hid v1; have B1 := hid b1; clear v1 b1 s1))
  have c0 : w4.cell? ⟨w2.heap.size, 0, none⟩ = some (.int .i64 p.line) := Q4.out.cell (j := 0) rfl
  have c1 : w4.cell? ⟨w2.heap.size, 1, none⟩ = some (.int .i64 p.col) := Q4.out.cell (j := 1) rfl
  have d0 : w4.cell? ⟨w.heap.size, 0, none⟩ = some (.int .i64 0) := V4.out.cell (j := 0) rfl
  have d1 : w4.cell? ⟨w.heap.size, 1, none⟩ = some (.int .i64 0) := V4.out.cell (j := 1) rfl
  have e0 : w4.frozen? ⟨w.heap.size, 0, none⟩ = false := V4.out.free (j := 0) (by decide)
  have e1 : w4.frozen? ⟨w.heap.size, 1, none⟩ = false := V4.out.free (j := 1) (by decide)
  have hg48 : ¬ w2.heap.size = w.heap.size := by have := N3.out; omega
  have hg84 : ¬ w.heap.size = w2.heap.size := by omega
  go_region_held3 (fun w' => w'.cell? ⟨w2.heap.size, 0, none⟩ = some (.int .i64 p.line) ∧ w'.cell? ⟨w2.heap.size, 1, none⟩ = some (.int .i64 p.col)) (first | with_reducible exact ⟨c0, c1⟩ | go_keep) (first | fail)
  all_goals
    obtain ⟨w9, hW⟩ : ∃ w9, w9 = ((w4.setCell ⟨w.heap.size, 0, none⟩ (.int .i64 p.line)).setCell ⟨w.heap.size, 1, none⟩ (.int .i64 p.col)).drew := ⟨_, rfl⟩
    obtain ⟨z6, z7⟩ := one_stored V4.out p hW
    rw [← hW]
    clear hW c0 c1 d0 d1 e0 e1
    go_wp2_with fail
    exact bodyPost_ret (results_1p1 Tryz.results9 _ rfl z6) rfl ⟨B4.out.trans (z7 _ (Nat.le_refl _)), HF.out, rfl⟩
end Go.Proofs.YtinjhnflnfpoeaaGreatDoor
