/-
  A statement of a list put behind it, in memory: a copy made in a drawn region, one pushed; the list at a place; what parse.Check asks of the longer lists. No condition but what each head says.
-/
import Derived.Test.YtpkoboohnbkpoaaGreatDoorJVC
import Derived.Test.YtpkoboohnbkpoaaGreatDoorJVD
import Derived.Test.YtpkoboohnbkpoaaGreatDoorK11
import Derived.Test.YtpkoboohnbkpoaaGreatDoorK7
namespace Go.Proofs.YtpkoboohnbkpoaaGreatDoor
open Go Go.RowKit Go.Joins

theorem okA_app3 {f g : Fo} {k : Int} (h : (f.app g).okA k) : f.okA k ∧ g.okA k := by
  induction f with
  | nil => exact ⟨trivial, h⟩
  | cons w ns b y n _ ih => exact ⟨⟨h.1, h.2.1, h.2.2.1, (ih h.2.2.2).1⟩, (ih h.2.2.2).2⟩
theorem Tr.split {w : World} {K : Nat → Prop} {ys : List Sm} : ∀ (j i : Nat) {r : Fo}, Tr w K r (ys.drop i) → i + j < ys.length →
    ∃ (a : Fo) (x : St) (y c : Fo), r = a.app ((oneFo x y).app c) ∧ (smS.nth ys (i + j)).word = x.w ∧ (smS.nth ys (i + j)).block = x.b ∧ RwP nmS w K (smS.nth ys (i + j)).nA (smS.nth ys (i + j)).nn x.ns ∧ TrS w K (smS.nth ys (i + j)).bA (smS.nth ys (i + j)).bn y
  | 0, i, r, h, hj => by
    obtain ⟨wd, ns, bl, y, nx, rfl, e1, e2, h3, h4, _⟩ := h.step (i := i) (by omega)
    exact ⟨.nil, ⟨wd, ns, bl⟩, y, nx, rfl, e1, e2, h3, h4⟩
  | j + 1, i, r, h, hj => by
    obtain ⟨wd, ns, bl, y0, nx, rfl, _, _, _, _, h5⟩ := h.step (i := i) (by omega)
    obtain ⟨a, x, y, c, rfl, e1, e2, h3, h4⟩ := Tr.split j (i + 1) h5 (by omega)
    rw [show i + 1 + j = i + (j + 1) by omega] at e1 e2 h3 h4
    exact ⟨.cons wd ns bl y0 a, x, y, c, rfl, e1, e2, h3, h4⟩
theorem tr_one {w : World} {K : Nat → Prop} {xm : Sm} {x : St} {y : Fo} (h1 : xm.word = x.w) (h2 : xm.block = x.b) (h3 : RwP nmS w K xm.nA xm.nn x.ns) (h4 : TrS w K xm.bA xm.bn y) : Tr w K (oneFo x y) [xm] :=
  ⟨xm, [], rfl, h1, h2, h3, h4, rfl⟩
theorem Sh.step_copy3 {P : Program} {α : Type} (σ : Sh P α) {w : World} {ops : Array Oper} {o : Oper} {a : Act} {Q : Exit → Act → World → Prop} {base m c2 : Nat} {A2 : Option Addr} {ys : List α} {K : Act → World → Prop} {E : Prop} (hgd : o.guard = none) (e : Operand) (ho : o.op = .call { callee := .builtin .append, args := #[.const (.slice none 0 0), e], argTypes := #[σ.S, σ.S] })
    (hx : a.eval e = .slice A2 m c2) (hr : σ.Rw w w.heap.size A2 m ys) (hm : m ≤ 1000000) (hbase : base ≤ w.heap.size)
    (h : ∀ A' c' w', σ.Ow w' base A' m c' ys → w.grownBy w' none → K (a.put o.dst (.slice A' m c')) w') : if Region.wanted o (yielded ops a.tmps) = true then Oper.wp P o a w K Q else E := by
  have hw : Region.wanted o (yielded ops a.tmps) = true := by simp [Region.wanted, hgd]
  rw [if_pos hw]
  have hnil : σ.Ow w base none 0 0 [] := Sh.Ow.nil _ _
  obtain ⟨A', c', w', hrun, h2, h3, h4⟩ := σ.run_app o.type hnil hr (by omega) hbase
  simp only [Nat.zero_add, List.nil_append] at h2
  have hs : a.eval (.const (.slice none 0 0)) = .slice none 0 0 := rfl
  unfold Oper.wp execOp
  simp only [ho, resolve, invoke, builtin, Sem.run_bind, Sem.run_pure, Result.andThen_ok, List.map_toArray, List.map_cons, List.map_nil, hs, hx]
  rw [hrun]
  simp only [Nat.zero_add, Result.andThen_ok]
  exact h A' c' w' h2 h3
/-- ahead of the copy: a statement's variable, and nothing below the base written. -/
structure PR (B : Nat) (w0 w : World) (g : Nat) (x : Sm) : Prop where
  var : smS.Var w g x
  bl : Below B w0 w
  le : B ≤ w0.heap.size
  lt : g < B
/-- .. and behind it. -/
structure CP (B : Nat) (w0 w : World) (g : Nat) (x : Sm) (A : Option Addr) (n c : Nat) (xs : List Sm) : Prop where
  pr : PR B w0 w g x
  ow : smS.Ow w B A n c xs
theorem PR.sz {B g : Nat} {w0 w : World} {x : Sm} (h : PR B w0 w g x) : B ≤ w.heap.size := Nat.le_trans h.le h.bl.size
theorem PR.drew {B g : Nat} {w0 w : World} {x : Sm} (h : PR B w0 w g x) : PR B w0 w.drew g x := ⟨h.var.drew, h.bl.drew, h.le, h.lt⟩
theorem PR.alloc {B g : Nat} {w0 w : World} {x : Sm} (h : PR B w0 w g x) (o : Obj) : PR B w0 (w.alloc o) g x := ⟨h.var.keep ((Below.refl _ _).alloc (Nat.le_refl _) o), h.bl.alloc h.sz o, h.le, h.lt⟩
theorem PR.copy {B g n c' : Nat} {w0 w w' : World} {x : Sm} {A' : Option Addr} {xs : List Sm} (h : PR B w0 w g x) (own : smS.Ow w' B A' n c' xs) (gr : w.grownBy w' none) : CP B w0 w' g x A' n c' xs := by
  have hb : Below B w w' := (Below.refl _ _).grown gr h.sz (fun k hk => by cases hk)
  exact ⟨⟨h.var.below hb h.lt, h.bl.trans hb, h.le, h.lt⟩, own⟩
theorem CP.drew {B g n c : Nat} {w0 w : World} {x : Sm} {A : Option Addr} {xs : List Sm} (h : CP B w0 w g x A n c xs) : CP B w0 w.drew g x A n c xs := ⟨h.pr.drew, h.ow.drew⟩
theorem CP.alloc {B g n c : Nat} {w0 w : World} {x : Sm} {A : Option Addr} {xs : List Sm} (h : CP B w0 w g x A n c xs) (o : Obj) : CP B w0 (w.alloc o) g x A n c xs := ⟨h.pr.alloc o, h.ow.alloc o⟩
theorem CP.push {B g n c n' c' : Nat} {w0 w w' : World} {x : Sm} {A A' : Option Addr} {xs xs' : List Sm} (h : CP B w0 w g x A n c xs) (own : smS.Ow w' B A' n' c' xs') (gr : w.grownBy w' (Value.ownBlock (.slice A n c))) : CP B w0 w' g x A' n' c' xs' := by
  have hb : Below B w w' := Sh.grown_below smS h.ow h.pr.sz gr
  exact ⟨⟨h.pr.var.below hb h.pr.lt, h.pr.bl.trans hb, h.pr.le, h.pr.lt⟩, own⟩
theorem CP.trs {B g m c : Nat} {w0 w : World} {x xm : Sm} {A : Option Addr} {ys : List Sm} {f f2 : Fo} {K K2 : Nat → Prop} (h : CP B w0 w g x A m c (ys ++ [xm])) (hf : Tr w0 K f ys) (hg : Tr w0 K2 f2 [xm]) (hK : ∀ k, K k → k < B) (hK2 : ∀ k, K2 k → k < B) : TrS w (fun k => k < w.heap.size) A m (f.app f2) :=
  ⟨ys ++ [xm], h.ow.rowP.mono fun _ h _ => h.2.1, ((hf.keep fun b hb _ => h.pr.bl.block b (hK b hb)).mono fun _ _ h => h).app ((hg.keep fun b hb _ => h.pr.bl.block b (hK2 b hb)).mono fun _ _ h => h)⟩
/-- What parse.Check tells of the longer lists. -/
theorem chk_once {a c : Fo} {x : St} {y : Fo} {f : Fo} (hf : f = a.app ((oneFo x y).app c)) (h : chkE f = 0) (hc : f.count ≤ 400) : chkE (f.app (oneFo x y)) = 0 ∧ (f.app (oneFo x y)).okS ∧ (f.app (oneFo x y)).count ≤ 800 := by
  have h1 := (chk_ok h).1
  have hk : (f.app (oneFo x y)).count ≤ 800 := by
    rw [Fo.count_app]
    have : f.count = a.count + ((oneFo x y).count + c.count) := by rw [hf, Fo.count_app, Fo.count_app]
    omega
  have h2 : (f.app (oneFo x y)).okA 6 := okA_app h1 (by rw [hf] at h1; exact (okA_app3 (okA_app3 h1).2).1)
  exact ⟨ok_chk h2 (by omega), okA_okS h2, hk⟩
theorem chk_rep {a c : Fo} {x : St} {y : Fo} {f : Fo} (hf : f = a.app ((oneFo x y).app c)) (h : chkE f = 0) (hc : f.count ≤ 400) (hd : (oneFo repSt (oneFo x y)).depth ≤ 6) : chkE (f.app (oneFo repSt (oneFo x y))) = 0 ∧ (f.app (oneFo repSt (oneFo x y))).okS ∧ (f.app (oneFo repSt (oneFo x y))).count ≤ 801 := by
  have h1 := (chk_ok h).1
  have hk : (f.app (oneFo repSt (oneFo x y))).count ≤ 801 := by
    rw [Fo.count_app]
    have : f.count = a.count + ((oneFo x y).count + c.count) := by rw [hf, Fo.count_app, Fo.count_app]
    have : (oneFo repSt (oneFo x y)).count = 1 + (oneFo x y).count := rfl
    omega
  have h3 : (oneFo x y).okA 6 := by rw [hf] at h1; exact (okA_app3 (okA_app3 h1).2).1
  have h4 : (oneFo repSt (oneFo x y)).eachB = true := by
    have := (of_okA _ 6 h3 (by decide)).1
    have hw : (wordB wRepeat && decide (([(1, false), (0, true)] : List (Int × Bool)).length ≤ 8)) = true := by decide
    have hr : (!(([(1, false), (0, true)] : List (Int × Bool)).any farB)) = true := by decide
    show (((((wordB wRepeat && decide (([(1, false), (0, true)] : List (Int × Bool)).length ≤ 8)) && (true || decide ((oneFo x y).len = 0))) && (oneFo x y).eachB) && !(([(1, false), (0, true)] : List (Int × Bool)).any farB)) && Fo.nil.eachB) = true
    rw [this, hw, hr]
    rfl
  have h2 : (f.app (oneFo repSt (oneFo x y))).okA 6 := okA_app h1 (okA_of _ 6 h4 (by omega))
  exact ⟨ok_chk h2 (by omega), okA_okS h2, hk⟩
end Go.Proofs.YtpkoboohnbkpoaaGreatDoor
