/-
  The walk of WireJoins.
-/
import Derived.Test.YtkbcmnheecihiaaO
import Derived.Test.YtkbcmnheecihiaaL
namespace Go.Proofs.Ytkbcmnheecihiaa
open Go Go.RowKit

section
variable {P : Program} (w : World)
/-- append where the operation is guarded, and wanted. -/
theorem wpList_appw {ops : Array Oper} {rest : List Oper} {o : Oper} {a : Act} {Q : Exit → Act → World → Prop} (hgd : Region.wanted o (yielded ops a.tmps) = true) (s x : Operand) (t : TypeId)
    (ho : o.op = .call { callee := .builtin .append, args := #[s, x], argTypes := #[t, t] })
    (base : Nat) (e : TypeId) (z : Value) (bytes : Nat) (ht : P.underlying t = some (.slice e)) (hi : (P.info? e).map (fun i => (i.zero, i.size, i.bytes)) = some (some z, 1, bytes)) (hz : z.cells.size = 1)
    (A : Option Addr) (n c : Nat) (vs : List Value) (hs : a.eval s = .slice A n c) (hown : Own w base e A n c vs) (B : Nat) (A2 : Option Addr) (m c2 : Nat) (news : List Value) (hx : a.eval x = .slice A2 m c2) (hr : Row w B A2 m news)
    (h1 : ∀ u ∈ news, u.oneCell' = true) (hb : (n + m) * bytes ≤ 140737488355328) (hp : 0 < bytes) (hbase : base ≤ w.heap.size)
    (h : ∀ A' c' w', Own w' base e A' (n + m) c' (vs ++ news) → Below base w w' → w.grownBy w' (Value.ownBlock (.slice A n c)) → wpList P ops Q rest (a.put o.dst (.slice A' (n + m) c')) w') : wpList P ops Q (o :: rest) a w := by
  refine wpList_step fun _ hK => ?_
  rw [if_pos hgd]
  obtain ⟨A', c', w', hrun, h2, h3, h4⟩ := run_appg (P := P) w base t o.type e z bytes ht hi hz A n c vs hown B A2 m c2 news hr h1 hb hp hbase
  unfold Oper.wp execOp
  simp only [ho, resolve, invoke, builtin, Sem.run_bind, Sem.run_pure, Result.andThen_ok, List.map_toArray, List.map_cons, List.map_nil, hs, hx, hrun]
  exact hK _ _ (h A' c' w' h2 h3 h4)
end

theorem Recs.len {bs : List Nat} (ho : Oct bs) {k e : Nat} {ls : List (List Nat)} (h : Recs bs k e ls) : ls.length ≤ bs.length - k := by
  induction h with
  | done _ => simp
  | bad _ _ _ => simp
  | more h1 _ ih =>
    obtain ⟨_, _, _, _, _⟩ := bod_ok ho h1
    simp only [List.length_cons]; omega
  | worse _ _ _ _ => simp

theorem records_0 (A : Option Addr) (n c B e : Nat) (bs : List Nat) (ls : List (List Nat)) (w : World) (hr : Row w B A n (bv bs)) (hB : B ≤ w.heap.size) (ho : Oct bs) (hn : n ≤ 100000) (hnc : n ≤ c) (hR : Recs bs 0 e ls) :
    Calls Try.prog 23 #[.slice A n c, .int .i64 0] w (RetL ls e w) := records_any A n c B 0 e bs ls w hr hB ho hn hnc (by omega) hR

theorem joins_far (A0 A1 : Option Addr) (n0 c0 n1 c1 : Nat) (w : World) (h0 : n0 ≤ 9223372036854775807) (h1 : n1 ≤ 9223372036854775807) (hs : ¬ (n0 ≤ 3000 ∧ n1 ≤ 3000)) :
    Calls Try.prog 7 #[.slice A0 n0 c0, .slice A1 n1 c1] w (OkP w) := by
  have HFW : Hid ((decide (n0 ≤ 3000) && decide (n1 ≤ 3000)) = false) := hid (by simp; omega)
  clear hs
  go_enter Try.func7, Try.ntmps7
  go_wp2_with fail
  refine (live_any w).mono ?_
  rintro e w0 ⟨rfl, bel0⟩
  have HB0 := hid bel0
  clear bel0
  go_wp2_with fail
  refine (few2 A0 A1 n0 c0 n1 c1 _ false w0 rfl h0 h1 HFW.out).mono ?_
  rintro e w1 ⟨rfl, rfl⟩
  go_wp2_with fail
  go_ret
  exact ⟨rfl, HB0.out.alloc HB0.out.size _⟩

set_option maxRecDepth 100000 in
set_option maxHeartbeats 4000000 in
theorem joins_near (A0 A1 : Option Addr) (n0 c0 n1 c1 : Nat) (us bs : List Nat) (w : World) (r0 : Row w w.heap.size A0 n0 (bv us)) (r1 : Row w w.heap.size A1 n1 (bv bs)) (o0 : Oct us) (o1 : Oct bs) (q0 : n0 ≤ c0) (q1 : n1 ≤ c1)
    (h0 : n0 ≤ 3000) (h1 : n1 ≤ 3000) : Calls Try.prog 7 #[.slice A0 n0 c0, .slice A1 n1 c1] w (OkP w) := by
  have HFW : Hid ((decide (n0 ≤ 3000) && decide (n1 ≤ 3000)) = true) := hid (by simp; omega)
  have l0 := r0.1
  have l1 := r1.1
  rw [bv_len] at l0 l1
  have L0 := hid l0
  have L1 := hid l1
  have R0 := hid r0
  have R1 := hid r1
  have O0 := hid o0
  have O1 := hid o1
  obtain ⟨e, xs, hx⟩ := Recs.total us o0 us.length 0 (by omega)
  obtain ⟨f, ys, hy⟩ := Recs.total bs o1 bs.length 0 (by omega)
  have hs : Recs (us ++ bs) us.length f ys := by have := hy.shift us; simpa using this
  obtain ⟨g, zs, hz, hg⟩ : ∃ g zs, Recs (us ++ bs) 0 g zs ∧ ((e ≠ 0 ∧ (e = 3 ∨ g = e)) ∨ (e = 0 ∧ f ≠ 0 ∧ g = f) ∨ (e = 0 ∧ f = 0 ∧ g = 0 ∧ zs = xs ++ ys)) := by
    by_cases he : e = 0
    · subst he
      have := hx.ahead o0 (Nat.zero_le _) hs (fun h => hy.none h)
      by_cases hf : f = 0
      · rw [if_pos hf] at this; exact ⟨f, _, this, .inr (.inr ⟨rfl, hf, hf, rfl⟩)⟩
      · rw [if_neg hf] at this; exact ⟨f, _, this, .inr (.inl ⟨rfl, hf, rfl⟩)⟩
    · by_cases he3 : e = 3
      · obtain ⟨g, zs, hz⟩ := Recs.total (us ++ bs) (o0.app o1) (us ++ bs).length 0 (by omega)
        exact ⟨g, zs, hz, .inl ⟨he, .inl he3⟩⟩
      · exact ⟨e, [], hx.wrong bs o0 he he3, .inl ⟨he, .inr rfl⟩⟩
  have HX := hid hx
  have HY := hid hy
  have HZ := hid hz
  have HS := hid hs
  have HG := hid hg
  clear l0 l1 r0 r1 o0 o1 hx hy hz hs hg
  go_enter Try.func7, Try.ntmps7
  go_wp2_with fail
  refine (live_any w).mono ?_
  rintro r w0 ⟨rfl, bel0⟩
  have HB0 := hid bel0
  clear bel0
  go_wp2_with fail
  refine (few2 A0 A1 n0 c0 n1 c1 _ true w0 rfl (by omega) (by omega) HFW.out).mono ?_
  rintro r w1 ⟨rfl, rfl⟩
  have HB1 : Hid (Below w.heap.size w (w0.alloc (.cells #[.slice A0 n0 c0, .slice A1 n1 c1] 22))) := hid (HB0.out.alloc HB0.out.size _)
  clear HB0
  go_wp2_with fail
  generalize (w0.alloc (.cells #[.slice A0 n0 c0, .slice A1 n1 c1] 22)) = W at HB1 ⊢
  refine (records_0 A0 n0 c0 w.heap.size e us xs W (R0.out.below HB1.out) HB1.out.size O0.out (by omega) q0 HX.out).mono ?_
  rintro r w2 ⟨A4, n4, c4, v4, rfl, own4, els4, bel4⟩
  have HO4 := hid own4
  have HE4 := hid els4
  have HB2 : Hid (Below w.heap.size w w2) := hid (HB1.out.trans (bel4.mono HB1.out.size))
  clear own4 els4 bel4 HB1
  go_wp2_with fail
  refine (records_0 A1 n1 c1 w.heap.size f bs ys w2 (R1.out.below HB2.out) HB2.out.size O1.out (by omega) q1 HY.out).mono ?_
  rintro r w3 ⟨A5, n5, c5, v5, rfl, own5, els5, bel5⟩
  have HO5 := hid own5
  have HE5 := hid els5
  have HO4' : Hid (Own w3 W.heap.size 22 A4 n4 c4 v4) := hid (HO4.out.below bel5)
  have HE4' : Hid (Els w3 v4 xs) := hid (HE4.out.below bel5)
  have HB3 : Hid (Below w.heap.size w w3) := hid (HB2.out.trans (bel5.mono HB2.out.size))
  clear own5 els5 bel5 HB2 HO4 HE4
  go_wp2_with (first
    | (at_builtin; refine wpList_app _ rfl (.const (.slice none 0 0)) (.tmp 32) 22 rfl w3.heap.size 5 (.int .u8 0) 1 Try.underlying22 info5 rfl none 0 0 [] rfl (Own.nil _ _ _) w.heap.size A0 n0 c0 (bv us) rfl (R0.out.below HB3.out) (bv_one us) (by omega) (by omega) (Nat.le_refl _) ?_; intro A6 c6 w6 own6 bel6; simp only [Nat.zero_add, List.nil_append] at own6)
    | (at_builtin; refine wpList_app _ rfl (.tmp 33) (.tmp 34) 22 rfl w3.heap.size 5 (.int .u8 0) 1 Try.underlying22 info5 rfl A6 n0 c6 _ rfl own6 w.heap.size A1 n1 c1 (bv bs) rfl ((R1.out.below HB3.out).below (bel6.mono HB3.out.size)) (bv_one bs) (by omega) (by omega) bel6.size ?_; intro A7 c7 w7 own7 bel7))
  rw [← bv_app] at own7
  have b37 : Below w3.heap.size w3 w7 := bel6.trans bel7
  have HB4 : Hid (Below w.heap.size w w7) := hid (HB3.out.trans (b37.mono HB3.out.size))
  have HR7 : Hid (Row w7 w7.heap.size A7 (n0 + n1) (bv (us ++ bs))) := hid own7.row
  have hc7 : n0 + n1 ≤ c7 := own7.cap
  have HO4 : Hid (Own w7 W.heap.size 22 A4 n4 c4 v4) := hid (HO4'.out.below b37)
  have HE4 : Hid (Els w7 v4 xs) := hid (HE4'.out.below b37)
  have HO5' : Hid (Own w7 w2.heap.size 22 A5 n5 c5 v5) := hid (HO5.out.below b37)
  have HE5' : Hid (Els w7 v5 ys) := hid (HE5.out.below b37)
  clear own6 own7 bel6 bel7 b37 HO4' HE4' HO5 HE5 HB3
  refine (records_0 A7 (n0 + n1) c7 w7.heap.size g (us ++ bs) zs w7 HR7.out (Nat.le_refl _) (O0.out.app O1.out) (by omega) hc7 HZ.out).mono ?_
  rintro r w8 ⟨A8, n8, c8, v8, rfl, own8, els8, bel8⟩
  have HB5 : Hid (Below w.heap.size w w8) := hid (HB4.out.trans (bel8.mono HB4.out.size))
  have HO8 := hid own8
  have HE8 := hid els8
  have HO4' : Hid (Own w8 W.heap.size 22 A4 n4 c4 v4) := hid (HO4.out.below bel8)
  have HE4' : Hid (Els w8 v4 xs) := hid (HE4.out.below bel8)
  have HO5 : Hid (Own w8 w2.heap.size 22 A5 n5 c5 v5) := hid (HO5'.out.below bel8)
  have HE5 : Hid (Els w8 v5 ys) := hid (HE5'.out.below bel8)
  clear own8 els8 bel8 HO4 HE4 HO5' HE5' HB4 HR7 hc7
  go_wp2_with (first
    | (at_builtin; refine wpList_app _ rfl (.const (.slice none 0 0)) (.tmp 40) 22 rfl w8.heap.size 5 (.int .u8 0) 1 Try.underlying22 info5 rfl none 0 0 [] rfl (Own.nil _ _ _) w.heap.size A0 n0 c0 (bv us) rfl (R0.out.below HB5.out) (bv_one us) (by omega) (by omega) (Nat.le_refl _) ?_; intro A9 c9 w9 own9 bel9; simp only [Nat.zero_add, List.nil_append] at own9)
    | (at_builtin; refine wpList_app _ rfl (.tmp 41) (.tmp 42) 22 rfl w8.heap.size 5 (.int .u8 0) 1 Try.underlying22 info5 rfl A9 n0 c9 _ rfl own9 w.heap.size A1 n1 c1 (bv bs) rfl ((R1.out.below HB5.out).below (bel9.mono HB5.out.size)) (bv_one bs) (by omega) (by omega) bel9.size ?_; intro A10 c10 w10 own10 bel10))
  rw [← bv_app] at own10
  have b810 : Below w8.heap.size w8 w10 := bel9.trans bel10
  have HB6 : Hid (Below w.heap.size w w10) := hid (HB5.out.trans (b810.mono HB5.out.size))
  have HR10 : Hid (Row w10 w10.heap.size A10 (n0 + n1) (bv (us ++ bs))) := hid own10.row
  have hc10 : n0 + n1 ≤ c10 := own10.cap
  have HO4 : Hid (Own w10 W.heap.size 22 A4 n4 c4 v4) := hid (HO4'.out.below b810)
  have HE4 : Hid (Els w10 v4 xs) := hid (HE4'.out.below b810)
  have HO5' : Hid (Own w10 w2.heap.size 22 A5 n5 c5 v5) := hid (HO5.out.below b810)
  have HE5' : Hid (Els w10 v5 ys) := hid (HE5.out.below b810)
  have HO8' : Hid (Own w10 w7.heap.size 22 A8 n8 c8 v8) := hid (HO8.out.below b810)
  have HE8' : Hid (Els w10 v8 zs) := hid (HE8.out.below b810)
  have HRA := hid (records_any A10 (n0 + n1) c10 w10.heap.size us.length f (us ++ bs) ys w10 HR10.out (Nat.le_refl _) (O0.out.app O1.out) (by omega) hc10 (by have := L0.out; omega) HS.out)
  rw [L0.out] at HRA
  clear own9 own10 bel9 bel10 b810 HO4' HE4' HO5 HE5 HB5 HO8 HE8 HR10 hc10
  refine (HRA.out).mono ?_
  rintro r w11 ⟨A11, n11, c11, v11, rfl, own11, els11, bel11⟩
  have HB7 : Hid (Below w.heap.size w w11) := hid (HB6.out.trans (bel11.mono HB6.out.size))
  have HO4' : Hid (Own w11 W.heap.size 22 A4 n4 c4 v4) := hid (HO4.out.below bel11)
  have HE4' : Hid (Els w11 v4 xs) := hid (HE4.out.below bel11)
  have HO5 : Hid (Own w11 w2.heap.size 22 A5 n5 c5 v5) := hid (HO5'.out.below bel11)
  have HE5 : Hid (Els w11 v5 ys) := hid (HE5'.out.below bel11)
  have HO8 : Hid (Own w11 w7.heap.size 22 A8 n8 c8 v8) := hid (HO8'.out.below bel11)
  have HE8 : Hid (Els w11 v8 zs) := hid (HE8'.out.below bel11)
  have hly : ys.length ≤ 3000 := by have := HY.out.len O1.out; have := L1.out; omega
  have hlx : xs.length ≤ 3000 := by have := HX.out.len O0.out; have := L0.out; omega
  have hn5 : n5 ≤ 3000 := by rw [← HO5.out.len, HE5.out.1]; exact hly
  have hn4 : n4 ≤ 3000 := by rw [← HO4'.out.len, HE4'.out.1]; exact hlx
  have hn8 : n8 ≤ 6000 := by
    rw [← HO8.out.len, HE8.out.1]
    have := HZ.out.len (O0.out.app O1.out)
    rw [List.length_append] at this
    have := L0.out; have := L1.out; omega
  have HSA := hid (sameAll_any A11 A5 n11 c11 n5 c5 w11.heap.size w11.heap.size v11 v5 ys ys true w11 own11.row (Nat.le_refl _) HO5.out.row (Nat.le_refl _) els11 HE5.out (HY.out.oct O1.out) (HY.out.oct O1.out) (by rw [← own11.len, els11.1]; omega) (by omega) (by simp))
  clear own11 els11 bel11 HO4 HE4 HO5' HE5' HB6 HO8' HE8' HRA
  go_wp2_with fail
  refine (HSA.out).mono ?_
  rintro r w12 ⟨rfl, bel12⟩
  have HB8 : Hid (Below w.heap.size w w12) := hid (HB7.out.trans (bel12.mono HB7.out.size))
  have HO4 : Hid (Own w12 W.heap.size 22 A4 n4 c4 v4) := hid (HO4'.out.below bel12)
  have HE4 : Hid (Els w12 v4 xs) := hid (HE4'.out.below bel12)
  have HO5' : Hid (Own w12 w2.heap.size 22 A5 n5 c5 v5) := hid (HO5.out.below bel12)
  have HE5' : Hid (Els w12 v5 ys) := hid (HE5.out.below bel12)
  have HO8' : Hid (Own w12 w7.heap.size 22 A8 n8 c8 v8) := hid (HO8.out.below bel12)
  have HE8' : Hid (Els w12 v8 zs) := hid (HE8.out.below bel12)
  clear bel12 HB7 HO4' HE4' HO5 HE5 HO8 HE8 HSA
  rcases HG.out with ⟨he, hor⟩ | ⟨he, hf, hg⟩ | ⟨he, hf, hg, hzs⟩
  · have hne : ((e : Int) != 0) = true := by rw [bne_iff_ne]; omega
    by_cases h3 : e = 3
    · have h3b : ((e : Int) == 3) = true := by rw [beq_iff_eq]; omega
      clear he hor h3
      go_wp2_with fail
      go_ret
      exact ⟨rfl, HB8.out⟩
    · have h3b : ((e : Int) == 3) = false := by rw [beq_eq_false_iff_ne]; omega
      have hge : ((g : Int) == (e : Int)) = true := by rw [beq_iff_eq]; omega
      clear he hor h3
      go_wp2_with fail
      go_ret
      exact ⟨rfl, HB8.out⟩
  · have hne : ((e : Int) != 0) = false := by rw [bne_eq_false_iff_eq]; omega
    have hnf : ((f : Int) != 0) = true := by rw [bne_iff_ne]; omega
    have hge : ((g : Int) == (f : Int)) = true := by rw [beq_iff_eq]; omega
    clear he hf hg
    go_wp2_with fail
    go_ret
    exact ⟨rfl, HB8.out⟩
  · have hne : ((e : Int) != 0) = false := by rw [bne_eq_false_iff_eq]; omega
    have hnf : ((f : Int) != 0) = false := by rw [bne_eq_false_iff_eq]; omega
    have hge : ((g : Int) == 0) = true := by rw [beq_iff_eq]; omega
    have HZS := hid hzs
    clear he hf hg hzs
    go_wp2_with (first
      | (at_builtin; refine wpList_appw _ rfl (.const (.slice none 0 0)) (.tmp 85) 44 rfl w12.heap.size 22 (.slice none 0 0) 24 Try.underlying44 info22 rfl none 0 0 [] rfl (Own.nil _ _ _) w12.heap.size A4 n4 c4 v4 rfl HO4.out.row HE4.out.cells (by omega) (by omega) (Nat.le_refl _) ?_; intro A13 c13 w13 own13 bel13 gr13; simp only [Nat.zero_add, List.nil_append] at own13)
      | (at_builtin; refine wpList_appw _ rfl (.tmp 86) (.tmp 87) 44 rfl w12.heap.size 22 (.slice none 0 0) 24 Try.underlying44 info22 rfl A13 n4 c13 v4 rfl own13 w12.heap.size A5 n5 c5 v5 rfl (HO5'.out.row.below bel13) HE5'.out.cells (by omega) (by omega) bel13.size ?_; intro A14 c14 w14 own14 bel14 gr14))
    have bel1314 : Below w12.heap.size w12 w14 := bel13.trans bel14
    have HB9 : Hid (Below w.heap.size w w14) := hid (HB8.out.trans (bel1314.mono HB8.out.size))
    have HSA := hid (sameAll_any A8 A14 n8 c8 (n4 + n5) c14 w12.heap.size w14.heap.size v8 (v4 ++ v5) zs (xs ++ ys) true w14 (HO8'.out.row.below bel1314) bel1314.size own14.row (Nat.le_refl _) (HE8'.out.below bel1314) ((HE4.out.below bel1314).app (HE5'.out.below bel1314))
      (HZ.out.oct (O0.out.app O1.out)) (fun l hl => by rcases List.mem_append.1 hl with hl | hl; exact HX.out.oct O0.out l hl; exact HY.out.oct O1.out l hl) (by omega) (by omega) (by simp [HZS.out]))
    clear own13 own14 bel13 bel14 gr13 gr14 bel1314
    refine (HSA.out).mono ?_
    rintro r w15 ⟨rfl, bel15⟩
    have HB10 : Hid (Below w.heap.size w w15) := hid (HB9.out.trans (bel15.mono HB9.out.size))
    clear bel15
    go_wp2_with fail
    go_ret
    exact ⟨rfl, HB10.out⟩

theorem joins_row {w : World} (A0 : Option Addr) (n0 c0 : Nat) (z0 : List Int) (d0 : Came .u8 w A0 n0 c0 z0) (m0 : c0 ≤ 140737488351232) (A1 : Option Addr) (n1 c1 : Nat) (z1 : List Int) (d1 : Came .u8 w A1 n1 c1 z1) (m1 : c1 ≤ 140737488351232) :
    Calls Try.prog 7 #[.slice A0 n0 c0, .slice A1 n1 c1] w fun e w' => e = .returned (.bool true) ∧ Below w.heap.size w w' := by
  have q0 := d0.2.1
  have q1 := d1.2.1
  obtain ⟨us, r0, o0⟩ := came_u8 d0
  obtain ⟨bs, r1, o1⟩ := came_u8 d1
  by_cases h : n0 ≤ 3000 ∧ n1 ≤ 3000
  · exact joins_near A0 A1 n0 c0 n1 c1 us bs w r0 r1 o0 o1 q0 q1 h.1 h.2
  · exact joins_far A0 A1 n0 c0 n1 c1 w (by omega) (by omega) h
end Go.Proofs.Ytkbcmnheecihiaa
