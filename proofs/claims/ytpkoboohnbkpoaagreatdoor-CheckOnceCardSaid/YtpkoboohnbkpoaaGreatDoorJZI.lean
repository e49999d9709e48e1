/-
  Contract of parse.Flat once more: of the numbers of each statement that it tells the capacity is no less than how many they are.
-/
import Derived.Test.YtpkoboohnbkpoaaGreatDoorK7
namespace Go.Proofs.YtpkoboohnbkpoaaGreatDoor
open Go Go.RowKit Go.Joins

/-- Of a slice of n numbers the capacity is no less. -/
def NCp (_w : World) (_base : Nat) (_A : Option Addr) (n c : Nat) : Prop := n ≤ c
theorem NCp.below {w w' : World} {base n c : Nat} {A : Option Addr} (h : NCp w base A n c) (_ : Below w.heap.size w w') : NCp w' base A n c := h
theorem NCp.base {w : World} {base base' n c : Nat} {A : Option Addr} (h : NCp w base A n c) (_ : base' ≤ base) : NCp w base' A n c := h
theorem NCp.ow {w : World} {base n c : Nat} {A : Option Addr} {ns : List (Int × Bool)} (h : nmS.Ow w base A n c ns) : NCp w base A n c := h.cap
def AllCp (w : World) (base : Nat) (xs : List Sm) : Prop := ∀ x ∈ xs, NCp w base x.nA x.nn x.nc
theorem AllCp.below {w w' : World} {base : Nat} {xs : List Sm} (h : AllCp w base xs) (hb : Below w.heap.size w w') : AllCp w' base xs := fun x hx => (h x hx).below hb
/-- Where a row of statements grows, or is written to, they stay. -/
theorem AllCp.grown {w w' : World} {base b0 n c : Nat} {A : Option Addr} {xs ys : List Sm} (h : AllCp w base xs) (_ : smS.Ow w b0 A n c ys) (_ : w.grownBy w' (Value.ownBlock (.slice A n c))) : AllCp w' base xs := fun x hx => h x hx
set_option maxRecDepth 100000 in
theorem cloneN3_any (A : Option Addr) (n c : Nat) (ns : List (Int × Bool)) (w : World) (hr : nmS.Rw w w.heap.size A n ns) (hn : n ≤ 1000000) :
    Calls Tryz.prog 132 #[.slice A n c] w fun e w' => Below w.heap.size w w' ∧ ∃ A' c', e = .returned (.slice A' n c') ∧ RwP nmS w' (fun k => w.heap.size ≤ k ∧ k < w'.heap.size) A' n ns ∧ NCp w' w.heap.size A' n c' := by
  have HR := hid hr
  have q22 : ∀ (w : World) (a : Option Addr) (n c n' c' : Nat), (binOp .eql 34 (.slice a n c) (.slice none n' c')).run Tryz.prog w = .ok (.bool a.isNone) w := fun w a n c n' c' => Lib.run_eql_slice_nil w _ _ a n c n' c' Tryz.underlying34
  cases A with
  | none =>
    obtain rfl : n = 0 := by
      rcases Nat.eq_zero_or_pos n with h | h
      · exact h
      · obtain ⟨b, o, e, _⟩ := hr.2 h; cases e
    obtain rfl : ns = [] := List.eq_nil_of_length_eq_zero hr.1
    clear hr
    go_enter Tryz.func132, Tryz.ntmps132
    go_wp2
    go_ret
    exact ⟨Below.refl _ _, none, 0, rfl, RwP.nil, Nat.le_refl _⟩
  | some a =>
    clear hr
    go_enter Tryz.func132, Tryz.ntmps132
    have hlit : nmS.Ow (w.alloc (.cells #[] nmS.T)) w.heap.size (some ⟨w.heap.size, 0, none⟩) 0 0 [] := World.ownsRow_lit w #[] 0 (Nat.le_refl _) (by decide) rfl
    have HO := hid hlit
    clear hlit
    go_wp2_with (first
      | (refine Sh.wp_app nmS (A := some ⟨w.heap.size, 0, none⟩) (c := 0) (l := []) (base := w.heap.size) rfl (.tmp 5) (.tmp 6) rfl rfl HO.out rfl ((HR.out.below ((Below.refl _ _).alloc (Nat.le_refl _) _)).more (by simp)) (by omega) (by simp) ?_; intro A6 c6 w6 own6 gr6 li6; (simp only [Nat.zero_add, List.nil_append] at own6 ⊢); have O6 := hid own6; have B6 := hid (show Below w.heap.size w w6 from ((Below.refl _ _).alloc (Nat.le_refl _) _).trans (Sh.grown_below nmS HO.out (by simp) gr6)); clear own6 gr6 li6))
    go_ret
    exact ⟨B6.out, A6, c6, rfl, O6.out.rowP.mono fun _ h _ => ⟨h.1, h.2.1⟩, NCp.ow O6.out⟩
/-- What stands in flatBehind's region: the statement's variable, what is there already, and what lies below. -/
structure FB3 (base s3 g : Nat) (x : Sm) (w0 w : World) (A : Option Addr) (n c : Nat) (f : Fo) (xs : List Sm) : Prop where
  var : smS.Var w g x
  lo : Lo w base A n c f xs
  bl : Below base w0 w
  le : base ≤ w0.heap.size
  sz : s3 ≤ w.heap.size
  al : AllCp w base xs
/-- .. and its numbers, copied. -/
structure FN3 (base s3 g : Nat) (x : Sm) (w0 w : World) (A : Option Addr) (n c : Nat) (f : Fo) (xs : List Sm) (A2 : Option Addr) (n2 : Nat) (ns : List (Int × Bool)) (c2 : Nat) : Prop where
  fb : FB3 base s3 g x w0 w A n c f xs
  ns : RwP nmS w (fun j => s3 ≤ j ∧ j < w.heap.size) A2 n2 ns
  fr : NCp w s3 A2 n2 c2
section
variable {base s3 g : Nat} {x : Sm} {w0 w w' : World} {A A2 : Option Addr} {n c n2 c2 : Nat} {f : Fo} {xs : List Sm} {ns : List (Int × Bool)}
theorem FB3.keep (h : FB3 base s3 g x w0 w A n c f xs) (hb : Below w.heap.size w w') : FB3 base s3 g x w0 w' A n c f xs :=
  ⟨h.var.keep hb, h.lo.below hb, h.bl.trans (hb.mono (Nat.le_trans h.le h.bl.size)), h.le, Nat.le_trans h.sz hb.size, h.al.below hb⟩
theorem FB3.drew (h : FB3 base s3 g x w0 w A n c f xs) : FB3 base s3 g x w0 w.drew A n c f xs := h.keep ((Below.refl _ _).drew)
theorem FB3.alloc (h : FB3 base s3 g x w0 w A n c f xs) (o : Obj) : FB3 base s3 g x w0 (w.alloc o) A n c f xs := h.keep ((Below.refl _ _).alloc (Nat.le_refl _) _)
theorem FN3.keep (h : FN3 base s3 g x w0 w A n c f xs A2 n2 ns c2) (hb : Below w.heap.size w w') : FN3 base s3 g x w0 w' A n c f xs A2 n2 ns c2 :=
  ⟨h.fb.keep hb, (h.ns.below hb).mono fun _ h2 h3 => ⟨h2.1, h3⟩, h.fr.below hb⟩
theorem FN3.drew (h : FN3 base s3 g x w0 w A n c f xs A2 n2 ns c2) : FN3 base s3 g x w0 w.drew A n c f xs A2 n2 ns c2 := h.keep ((Below.refl _ _).drew)
theorem FN3.alloc (h : FN3 base s3 g x w0 w A n c f xs A2 n2 ns c2) (o : Obj) : FN3 base s3 g x w0 (w.alloc o) A n c f xs A2 n2 ns c2 := h.keep ((Below.refl _ _).alloc (Nat.le_refl _) _)
theorem FB3.copy (h : FB3 base s3 g x w0 w A n c f xs) (hb : Below w.heap.size w w') (hn : RwP nmS w' (fun k => w.heap.size ≤ k ∧ k < w'.heap.size) A2 n2 ns) (hf : NCp w' w.heap.size A2 n2 c2) (_ : c2 = c2) : FN3 base s3 g x w0 w' A n c f xs A2 n2 ns c2 :=
  ⟨h.keep hb, hn.mono fun _ h2 _ => ⟨Nat.le_trans h.sz h2.1, h2.2⟩, hf.base h.sz⟩
theorem FB3.base_le (h : FB3 base s3 g x w0 w A n c f xs) : base ≤ w.heap.size := Nat.le_trans h.le h.bl.size
/-- One more behind. -/
theorem FN3.push {w6 : World} {A6 : Option Addr} {c6 : Nat} {wd : List UInt8} {bl : Bool} (h : FN3 base s3 g x w0 w A n c f xs A2 n2 ns c2) (h3 : base ≤ s3) (hown : ∀ j, Value.ownBlock (.slice A n c) = some j → j < s3 ∧ j ≠ g)
    (own : smS.Ow w6 base A6 (n + 1) c6 (xs ++ [⟨wd, A2, n2, c2, bl, none, 0, 0⟩])) (gr : w.grownBy w6 (Value.ownBlock (.slice A n c))) (li : Value.ownBlock (.slice A6 (n + 1) c6) = Value.ownBlock (.slice A n c) ∨ Value.ownBlock (.slice A6 (n + 1) c6) = some w.heap.size) :
    Lo w6 base A6 (n + 1) c6 (f.app (.cons wd ns bl .nil .nil)) (xs ++ [⟨wd, A2, n2, c2, bl, none, 0, 0⟩]) ∧ smS.Var w6 g x ∧ Below base w0 w6 ∧ AllCp w6 base (xs ++ [⟨wd, A2, n2, c2, bl, none, 0, 0⟩]) := by
  have hx : Tr w (fun k => s3 ≤ k ∧ k < w.heap.size ∧ some k ≠ Value.ownBlock (.slice A n c)) (.cons wd ns bl .nil .nil) [⟨wd, A2, n2, c2, bl, none, 0, 0⟩] :=
    ⟨_, [], rfl, rfl, rfl, h.ns.mono fun k h2 _ => ⟨h2.1, h2.2, fun e => by have := (hown k e.symm).1; omega⟩, ⟨[], RwP.nil, rfl⟩, rfl⟩
  refine ⟨⟨own, ?_⟩, ?_, h.fb.bl.trans (Sh.grown_below smS h.fb.lo.ow h.fb.base_le gr), ?_⟩
  · have h1 := h.fb.lo.tr.app (hx.mono (P' := fun k => base ≤ k ∧ k < w.heap.size ∧ some k ≠ Value.ownBlock (.slice A n c)) fun k hk _ => ⟨Nat.le_trans h3 hk.1, hk.2⟩)
    refine (h1.keep fun b hb hs => gr.block b hs hb.2.2).mono fun b hb _ => ⟨hb.1, Nat.lt_of_lt_of_le hb.2.1 gr.size, ?_⟩
    rcases li with e | e
    · rw [e]; exact hb.2.2
    · rw [e]; intro e2; cases e2; have := hb.2.1; omega
  · have e := gr.block g h.fb.var.lt (fun e => (hown g e.symm).2 rfl)
    exact ⟨fun j v hv => (World.cell?_of_block (a := ⟨g, 0 + j, none⟩) e).trans (h.fb.var.1 j v hv), fun j hj => ⟨by rw [World.cell?_of_block (a := ⟨g, 0 + j, none⟩) e]; exact (h.fb.var.2 j hj).1, by rw [World.frozen?_of_block (a := ⟨g, 0 + j, none⟩) e]; exact (h.fb.var.2 j hj).2⟩⟩
  · have hall : AllCp w base (xs ++ [⟨wd, A2, n2, c2, bl, none, 0, 0⟩]) := fun y hy => by
      rcases List.mem_append.1 hy with hy | hy
      · exact h.fb.al y hy
      · rw [List.mem_singleton] at hy
        subst hy
        exact h.fr.base h3
    exact hall.grown h.fb.lo.ow gr
end
def Flat3Said (f : Fo) : Prop := ∀ (w : World) (base : Nat) (K : Nat → Prop) (A : Option Addr) (n c : Nat) (f0 : Fo) (xs0 : List Sm) (A2 : Option Addr) (n2 c2 : Nat), Lo w base A n c f0 xs0 → AllCp w base xs0 → TrS w K A2 n2 f → (∀ k, K k → k < base) → base ≤ w.heap.size → f0.len + f.count ≤ 1000000 → f.okS →
  Calls Tryz.prog 104 #[.slice A n c, .slice A2 n2 c2] w fun e w' => ∃ A' n' c' xs', e = .returned (.slice A' n' c') ∧ Lo w' base A' n' c' (f0.app f.flat) xs' ∧ Below base w w' ∧ AllCp w' base xs'
set_option maxHeartbeats 4000000 in
set_option maxRecDepth 100000 in
theorem flat3_step (f : Fo) (hf : f.Bodies Flat3Said) : Flat3Said f := by
  intro w base K A n c f0 xs0 A2 n2 c2 hlo hal ht hK hbase hlen hok
  have HL2 := hid (show f.len = n2 from ht.len.symm)
  obtain ⟨ys, hx, htr⟩ := ht
  have HX := hid hx
  have HKB := hid hK
  have HBA := hid hbase
  have HLN := hid hlen
  have HS0 := hid (And.intro hf (And.intro htr (And.intro hok (And.intro hlo hal))))
  have hn2 : (n2 : Int) ≤ 1000000 := by have := f.len_le; have := HL2.out; omega
  clear hlo hal hx htr hf hok hK hbase hlen
  go_enter Tryz.func104, Tryz.ntmps104
  go_wp2
  go_loopw [0, 9] (fun v0 v9 wr => ∃ (i k : Nat) (B : Option Addr) (d : Nat) (g r : Fo) (xs : List Sm), v0 = .slice B k d ∧ v9 = .int .i64 (i : Int) ∧ i ≤ n2 ∧ Lo wr base B k d g xs ∧ AllCp wr base xs ∧ g.app r.flat = f0.app f.flat ∧ r.Bodies Flat3Said ∧ Tr w K r (ys.drop i) ∧ r.okS ∧ Below base w wr) (fun _ v9 _ => n2 - (intOf v9).toNat)
  case atStart => exact ⟨0, n, A, c, f0, f, xs0, rfl, rfl, Nat.zero_le _, HS0.out.2.2.2.1, HS0.out.2.2.2.2, rfl, HS0.out.1, by simpa using HS0.out.2.1, HS0.out.2.2.1, Below.refl _ _⟩
  case round =>
    obtain ⟨i, k, B, d, g, r, xs, rfl, rfl, hi, hlo, hal, hgr, hbo, htr, hok, hbel⟩ := hrel
    have BW := hid hbel
    have AL := hid hal
    clear hal
    have hcnt : g.len + r.count ≤ 1000000 := by
      have h1 := congrArg Fo.len hgr
      rw [Fo.len_app, Fo.len_app, Fo.len_flat, Fo.len_flat] at h1
      have := HLN.out; omega
    have hk : k = g.len := hlo.len
    have HGR := hid hgr
    have L0 := hid hlo
    by_cases hlt : i < n2
    · obtain ⟨wd, ns, bl, y, nx, rfl, e1, e2, hns, hy, hnx⟩ := htr.step (by rw [HX.out.1]; exact hlt)
      have hkeep : ∀ b, K b → b < w.heap.size → wr.heap[b]? = w.heap[b]? := fun b hb _ => hbel.block b (HKB.out b hb)
      obtain ⟨b, o, rfl, hb, hcell⟩ := (HX.out.keep hkeep).size.at_ hlt
      generalize smS.nth ys i = x at *
      obtain ⟨xw, xA, xn, xc, xb, xB, xm, xk⟩ := x
      simp only at e1 e2 hns hy
      subst e1 e2
      have r1 : wr.rangeAt b (o + i * 4) (smS.enc ⟨xw, xA, xn, xc, xb, xB, xm, xk⟩) := hcell
      have hxn : xn ≤ 1000000 := by have := hns.1; have := hok.2.1; omega
      have HNS := hid (fun wx (bx : Below base w wx) => (show RwP nmS wx K xA xn ns from hns.keep fun b hb _ => bx.block b (HKB.out b hb)))
      have HC := hid (fun wx => by have := clone_any (strB xw) wx (by show xw.length ≤ _; have := hok.1; omega); exact this)
      have HN := hid (fun wx (bx : Below base w wx) => cloneN3_any xA xn xc ns wx ((HNS.out wx bx).size) hxn)
      have HY := hid hbo.1
      have HYT := hid (fun wx (bx : Below base w wx) => (show TrS wx K xB xm y from hy.keep fun b hb _ => bx.block b (HKB.out b hb)))
      have NX := hid (And.intro hbo.2 (And.intro hnx (And.intro hok.2.2.1 hok.2.2.2)))
      have HCN := hid hcnt
      have hk6 : k ≤ 999999 := by simp only [Fo.count] at hcnt; omega
      have OWN := hid (fun (j : Nat) (e : Value.ownBlock (.slice B k d) = some j) => own_lt hlo.ow j e)
      clear hcell hbel hgr hbo htr hok hns hy hnx hb hkeep hlo hcnt hk
      go_upto_region 4 with (first
        | (refine Sh.wp_sv smS (x := ⟨xw, xA, xn, xc, xb, xB, xm, xk⟩) rfl (.tmp 6) (.tmp 12) rfl rfl (by rfl) q2 ?_; intro w3 q3 b3 o3 s3; have B23 := hid (B2.out.trans (b3.mono (Nat.le_refl _))); have Q3 := hid q3; clear q3 b3 o3 s3)
        | (refine Sh.wp_al smS rfl rfl ?_; intro w2 q2 b2 s2; have B2 := hid b2; clear b2 s2)
        | (refine Sh.wp_ld smS rfl (.tmp 11) rfl rfl r1 ?_))
      have hbr : base ≤ wr.heap.size := Nat.le_trans HBA.out BW.out.size
      have F3 := hid (FB3.mk (s3 := w3.heap.size) (w0 := w) Q3.out (L0.out.below B23.out) (BW.out.trans (B23.out.mono hbr)) HBA.out (Nat.le_refl _) (AL.out.below B23.out))
      have c0 : w3.cell? ⟨wr.heap.size, 0, none⟩ = some (.string (strB xw)) := Q3.out.cell (j := 0) rfl
      have c1 : w3.cell? ⟨wr.heap.size, 1, none⟩ = some (.slice xA xn xc) := Q3.out.cell (j := 1) rfl
      have c2 : w3.cell? ⟨wr.heap.size, 2, none⟩ = some (.bool xb) := Q3.out.cell (j := 2) rfl
      have hs3 : base ≤ w3.heap.size := F3.out.base_le
      have HOW := hid (fun (j : Nat) (e : Value.ownBlock (.slice B k d) = some j) => show j < w3.heap.size ∧ j ≠ wr.heap.size from by have := OWN.out j e; have := B23.out.size; omega)
      have hkn : k ≤ 1000000 := by omega
      go_region_held3 (fun w' => w'.cell? ⟨wr.heap.size, 0, none⟩ = some (.string (strB xw)) ∧ w'.cell? ⟨wr.heap.size, 1, none⟩ = some (.slice xA xn xc) ∧ w'.cell? ⟨wr.heap.size, 2, none⟩ = some (.bool xb)) (first | with_reducible exact ⟨c0, c1, c2⟩ | go_keep)
        (first
          | (go_at_call 122; refine (HC.out _).mono ?_; rintro e w4 ⟨rfl, b4⟩; (first | (have F5s := hid (FN3.keep (show FN3 base w3.heap.size wr.heap.size ⟨xw, xA, xn, xc, xb, xB, xm, xk⟩ w _ B k d g xs A5 xn ns c5 from by (repeat (first | with_reducible exact F5.out | with_reducible exact F5s.out | with_reducible refine FN3.alloc ?_ _ | with_reducible refine FN3.drew ?_)); done) b4); have c0 : w4.cell? ⟨wr.heap.size, 0, none⟩ = some (.string (strB xw)) := F5s.out.fb.var.cell (j := 0) rfl; have c1 : w4.cell? ⟨wr.heap.size, 1, none⟩ = some (.slice xA xn xc) := F5s.out.fb.var.cell (j := 1) rfl; have c2 : w4.cell? ⟨wr.heap.size, 2, none⟩ = some (.bool xb) := F5s.out.fb.var.cell (j := 2) rfl) | (have FS := hid (FB3.keep (show FB3 base w3.heap.size wr.heap.size ⟨xw, xA, xn, xc, xb, xB, xm, xk⟩ w _ B k d g xs from by (repeat (first | with_reducible exact F3.out | with_reducible exact FS.out | with_reducible refine FB3.drew ?_)); done) b4); have c0 : w4.cell? ⟨wr.heap.size, 0, none⟩ = some (.string (strB xw)) := FS.out.var.cell (j := 0) rfl; have c1 : w4.cell? ⟨wr.heap.size, 1, none⟩ = some (.slice xA xn xc) := FS.out.var.cell (j := 1) rfl; have c2 : w4.cell? ⟨wr.heap.size, 2, none⟩ = some (.bool xb) := FS.out.var.cell (j := 2) rfl)); clear b4; dsimp only)
          | (go_at_call 132; refine (HN.out _ ?_).mono ?_; (focus exact FB3.bl (show FB3 base w3.heap.size wr.heap.size ⟨xw, xA, xn, xc, xb, xB, xm, xk⟩ w _ B k d g xs from by (repeat (first | with_reducible exact F3.out | with_reducible exact FS.out | with_reducible refine FB3.drew ?_)); done)); rintro e w5 ⟨b5, A5, c5, rfl, n5, f5⟩; have F5 := hid (FB3.copy (c2 := c5) (show FB3 base w3.heap.size wr.heap.size ⟨xw, xA, xn, xc, xb, xB, xm, xk⟩ w _ B k d g xs from by (repeat (first | with_reducible exact F3.out | with_reducible exact FS.out | with_reducible refine FB3.drew ?_)); done) b5 n5 f5 rfl); have c0 : w5.cell? ⟨wr.heap.size, 0, none⟩ = some (.string (strB xw)) := F5.out.fb.var.cell (j := 0) rfl; have c1 : w5.cell? ⟨wr.heap.size, 1, none⟩ = some (.slice xA xn xc) := F5.out.fb.var.cell (j := 1) rfl; have c2 : w5.cell? ⟨wr.heap.size, 2, none⟩ = some (.bool xb) := F5.out.fb.var.cell (j := 2) rfl; clear b5 n5 f5; dsimp only)
          | (refine Sh.step_push2 smS (A := B) (c := d) (l := xs) (base := base) (x := ⟨xw, A5, xn, c5, xb, none, 0, 0⟩) rfl (.tmp 13) (.tmp 23) (by rfl) (by rfl) ?_ (by rfl) ?_ hkn ?_ ?_; (focus exact Lo.ow (FB3.lo (FN3.fb (show FN3 base w3.heap.size wr.heap.size ⟨xw, xA, xn, xc, xb, xB, xm, xk⟩ w _ B k d g xs A5 xn ns c5 from by (repeat (first | with_reducible exact F5.out | with_reducible exact F5s.out | with_reducible refine FN3.alloc ?_ _ | with_reducible refine FN3.drew ?_)); done)))); (focus show World.rangeAt _ _ _ [.string (strB xw), .slice A5 xn c5, .bool xb, .slice none 0 0]; exact (by (repeat (first | with_reducible exact range_new' _ _ _ _ (by simp; done) | with_reducible refine World.rangeAt_alloc ?_ _ | with_reducible refine (World.rangeAt_drew _ _ _ _).2 ?_)); done)); (focus exact FB3.base_le (FN3.fb (show FN3 base w3.heap.size wr.heap.size ⟨xw, xA, xn, xc, xb, xB, xm, xk⟩ w _ B k d g xs A5 xn ns c5 from by (repeat (first | with_reducible exact F5.out | with_reducible exact F5s.out | with_reducible refine FN3.alloc ?_ _ | with_reducible refine FN3.drew ?_)); done))); intro A6 c6 w6 own6 gr6 li6; have P6 := hid (FN3.push (show FN3 base w3.heap.size wr.heap.size ⟨xw, xA, xn, xc, xb, xB, xm, xk⟩ w _ B k d g xs A5 xn ns c5 from by (repeat (first | with_reducible exact F5.out | with_reducible exact F5s.out | with_reducible refine FN3.alloc ?_ _ | with_reducible refine FN3.drew ?_)); done) hs3 HOW.out own6 gr6 li6); have c0 : w6.cell? ⟨wr.heap.size, 0, none⟩ = some (.string (strB xw)) := P6.out.2.1.cell (j := 0) rfl; have c1 : w6.cell? ⟨wr.heap.size, 1, none⟩ = some (.slice xA xn xc) := P6.out.2.1.cell (j := 1) rfl; have c2 : w6.cell? ⟨wr.heap.size, 2, none⟩ = some (.bool xb) := P6.out.2.1.cell (j := 2) rfl; clear own6 gr6 li6; dsimp only))
      all_goals
        have d3 : w6.cell? ⟨wr.heap.size, 3, none⟩ = some (.slice xB xm xk) := P6.out.2.1.cell (j := 3) rfl
        have hl6 : (g.app (Fo.cons xw ns xb .nil .nil)).len + y.count ≤ 1000000 := by
          have := HCN.out; simp only [Fo.count, Fo.len_app, Fo.len] at this ⊢; omega
        have HF := hid (HY.out w6 base K A6 (k + 1) c6 (g.app (Fo.cons xw ns xb .nil .nil)) _ xB xm xk P6.out.1 P6.out.2.2.2 (HYT.out w6 P6.out.2.2.1) HKB.out (Nat.le_trans HBA.out P6.out.2.2.1.size) hl6 NX.out.2.2.1)
        clear c0 c1 c2 hl6
        go_wp2_with (first
          | (go_at_call 104; refine HF.out.mono ?_; rintro e w7 ⟨A7, n7, c7, xs7, rfl, lo7, b7, al7⟩; have L7 := hid lo7; have A7L := hid al7; have B7 := hid (P6.out.2.2.1.trans b7); clear lo7 b7 d3 al7))
        go_roundw
        case rel => exact ⟨i + 1, n7, A7, c7, _, nx, xs7, rfl, rfl, by omega, L7.out, A7L.out, by rw [← HGR.out, Fo.flat, Fo.app_assoc, Fo.app_assoc, Fo.app, Fo.app], NX.out.1, NX.out.2.1, NX.out.2.2.2, B7.out⟩
        case measure => simp [intOf]; omega
    · obtain rfl : i = n2 := by omega
      have hr := htr.done (by rw [HX.out.1]; exact Nat.le_refl _)
      subst hr
      have HV := hid (show g = f0.app f.flat by rw [← hgr, Fo.flat, Fo.app_nil])
      clear hgr hbo htr hbel
      go_wp2
      go_ret
      exact ⟨B, k, d, xs, rfl, by rw [← HV.out]; exact L0.out, BW.out, AL.out⟩
theorem flat3_behind (f : Fo) : Flat3Said f := (Fo.ind flat3_step f).1
set_option maxRecDepth 100000 in
theorem flat3_any (f : Fo) (w : World) (K : Nat → Prop) (A2 : Option Addr) (n2 c2 : Nat) (ht : TrS w K A2 n2 f) (hK : ∀ k, K k → k < w.heap.size) (hc : f.count ≤ 1000000) (hok : f.okS) :
    Calls Tryz.prog 54 #[.slice A2 n2 c2] w fun e w' => ∃ A' n' c' xs', e = .returned (.slice A' n' c') ∧ Lo w' w.heap.size A' n' c' f.flat xs' ∧ Below w.heap.size w w' ∧ AllCp w' w.heap.size xs' := by
  have HF := hid (flat3_behind f w w.heap.size K none 0 0 .nil [] A2 n2 c2 (Lo.nil _ _) (fun x hx => by cases hx) ht hK (Nat.le_refl _) (by simp [Fo.len]; omega) hok)
  clear ht hK hc hok
  go_enter Tryz.func54, Tryz.ntmps54
  go_wp2_with (first | (go_at_call 104; refine HF.out.mono ?_; rintro e w7 ⟨A7, n7, c7, xs7, rfl, lo7, b7, al7⟩; have L7 := hid lo7; have B7 := hid b7; have A7L := hid al7; clear lo7 b7 al7))
  go_ret
  exact ⟨A7, n7, c7, xs7, rfl, by simpa only [Fo.app] using L7.out, B7.out, A7L.out⟩
end Go.Proofs.YtpkoboohnbkpoaaGreatDoor
