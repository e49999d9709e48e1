/-
  osc.Many, at an oscillator that may be and ticks of which there may be as many: the picoseconds of each, or that all together take no time; at most 100 numbers of 0 to 2^33.
-/
import Derived.Test.YtmmcnbhhdgnljaaH
import Derived.Deep.RegionLaw
import Derived.Deep.RegionHeld3
import Derived.Deep.DeepCutAuto
namespace Go.Proofs.Ytmmcnbhhdgnljaa
open Go Go.RowKit

/-! ### Plain -/
theorem aft_zero {x : Oc} (h : Ok x) : aft x 0 = x ∧ psO x 0 = 0 := by
  obtain ⟨p, d, r⟩ := x
  obtain ⟨h1, h2, h3, h4, h5, h6⟩ := h
  simp only at h5 h6
  unfold aft psO tot
  simp only [Int.zero_mul, Int.zero_add]
  rw [show r % 1000000000 = r by omega]
  exact ⟨rfl, by omega⟩
theorem aft_step (x : Oc) (s n : Int) : psO x (s + n) = psO x s + psO (aft x s) n ∧ aft x (s + n) = aft (aft x s) n := by
  have e : tot x (s + n) = 1000000000 * psO x s + tot (aft x s) n := by
    unfold psO aft tot
    simp only [Int.add_mul]
    generalize n * (x.p * (1000000000 + x.d)) = N
    generalize s * (x.p * (1000000000 + x.d)) = S
    omega
  have e1 : psO x (s + n) = psO x s + psO (aft x s) n := by
    have : psO x (s + n) = tot x (s + n) / 1000000000 := rfl
    have h2 : psO (aft x s) n = tot (aft x s) n / 1000000000 := rfl
    rw [this, h2, e]
    omega
  have e2 : tot x (s + n) % 1000000000 = tot (aft x s) n % 1000000000 := by rw [e]; omega
  refine ⟨e1, ?_⟩
  show (⟨x.p, x.d, tot x (s + n) % 1000000000⟩ : Oc) = ⟨(aft x s).p, (aft x s).d, tot (aft x s) n % 1000000000⟩
  rw [e2]; rfl
theorem sum_take {ns : List Int} {k : Nat} {z : Int} (h : ns[k]? = some z) : (ns.take (k + 1)).sum = (ns.take k).sum + z := by
  rw [List.take_add_one, h]; simp
theorem sum_app (a : List Int) (z : Int) : (a ++ [z]).sum = a.sum + z := by simp
theorem sum_nonneg : ∀ {a : List Int}, (∀ z ∈ a, 0 ≤ z) → 0 ≤ a.sum
  | [], _ => by simp
  | x :: a, h => by
    have h1 := h x (by simp)
    have h2 := sum_nonneg (fun z hz => h z (List.mem_cons_of_mem x hz))
    rw [List.sum_cons]; omega
theorem sum_take_le {a : List Int} (k : Nat) (h : ∀ z ∈ a, 0 ≤ z) : (a.take k).sum ≤ a.sum := by
  have e : a.sum = (a.take k).sum + (a.drop k).sum := by rw [← List.sum_append, List.take_append_drop]
  have := sum_nonneg (fun z hz => h z (List.mem_of_mem_drop hz) : ∀ z ∈ a.drop k, 0 ≤ z)
  omega
theorem sum_le {M : Int} : ∀ {a : List Int}, (∀ z ∈ a, z ≤ M) → a.sum ≤ a.length * M
  | [], _ => by simp
  | x :: a, h => by
    have h1 := h x (by simp)
    have h2 := sum_le (fun z hz => h z (List.mem_cons_of_mem x hz))
    rw [List.sum_cons, List.length_cons, Int.natCast_add, Int.add_mul]
    simp only [Int.natCast_one, Int.one_mul]
    omega

/-! ### At the operation -/
section
variable {w : World} {ops : Array Oper} {rest : List Oper} {o : Oper} {a : Act} {Q : Exit → Act → World → Prop}
theorem wpList_mk0 (hg : o.guard = none) (l c : Operand) (hop : o.op = Op.makeSlice 24 l c) (n : Nat) (hl : a.eval l = .int .i64 0) (hc : a.eval c = .int .i64 (n : Int)) (hn : n ≤ 100000)
    (hK : ∀ w', Own w' w.heap.size 2 (some ⟨w.heap.size, 0, none⟩) 0 n [] → Below w.heap.size w w' → wpList Try.prog ops Q rest (a.put o.dst (.slice (some ⟨w.heap.size, 0, none⟩) 0 n)) w') :
    wpList Try.prog ops Q (o :: rest) a w := by
  obtain ⟨i, hi0, hi1, hi2, hi3⟩ := info_parts info2
  exact wpList_make_own (P := Try.prog) w hg l c 24 hop w.heap.size 2 i (.int .i64 0) 1 Try.underlying24 hi0 hi1 hi2 .i64 .i64 (n : Int) n hl hc rfl (by rw [hi3]; omega) (by unfold maxLen; omega) (Nat.le_refl _) fun w' h1 h2 =>
    hK w' h1 ((Below.refl _ _).grown h2 (Nat.le_refl _) (fun k hk => by cases hk))
end
section
variable (w : World)
/-- append of one number onto a slice of the call's own that has room. -/
theorem run_app1 (base : Nat) (ty : TypeId) {g n c : Nat} {vs : List Value} (hown : Own w base 2 (some ⟨g, 0, none⟩) n c vs) {b off : Nat} {v : Value} (hr : w.cell? ⟨b, off, none⟩ = some v) (h1 : v.oneCell' = true) (hc : n + 1 ≤ c) :
    ∃ w', (Builtin.append_ #[24, 24] ty #[.slice (some ⟨g, 0, none⟩) n c, .slice (some ⟨b, off, none⟩) 1 1]).run Try.prog w = .ok (.slice (some ⟨g, 0, none⟩) (n + 1) c) w' ∧ Own w' base 2 (some ⟨g, 0, none⟩) (n + 1) c (vs ++ [v]) ∧ Below base w w' ∧ (∀ k, k ≠ g → k < w.heap.size → w'.heap[k]? = w.heap[k]?) ∧ w.heap.size ≤ w'.heap.size := by
  obtain ⟨i, hi0, hi1, hi2, hi3⟩ := info_parts info2
  obtain ⟨w', hrun, r1, r2⟩ := run_append_fits (P := Try.prog) w base 24 ty 2 i 1 Try.underlying24 hi0 hi2 g n c vs hown ⟨b, off, none⟩ 1 1 [v] rfl (fun j u hu => by
    rcases j with _ | j
    · simp at hu; subst hu; rw [plain_add]; exact hr
    · simp at hu) (fun u hu => by simp at hu; subst hu; exact h1) hc
  have hlt := World.ownsRow.lt hown
  exact ⟨w', hrun, r1, (Below.refl _ _).grown r2 (by have := (hlt g rfl).1; have := (hlt g rfl).2; omega) (fun k hk => (hlt k (by simpa [Value.ownBlock] using hk)).1), fun k hk hkl => r2.block k hkl (by simpa using hk), r2.size⟩
theorem step_app1 {base g n c : Nat} {vs : List Value} {ops : Array Oper} {o : Oper} {a : Act} {K : Act → World → Prop} {Q : Exit → Act → World → Prop} {E : Prop} (hgd : o.guard = none) (s x : Operand)
    (ho : o.op = .call { callee := .builtin .append, args := #[s, x], argTypes := #[24, 24] }) (hs : a.eval s = .slice (some ⟨g, 0, none⟩) n c) (hown : Own w base 2 (some ⟨g, 0, none⟩) n c vs) {b off : Nat} {v : Value} (hx : a.eval x = .slice (some ⟨b, off, none⟩) 1 1)
    (hr : w.cell? ⟨b, off, none⟩ = some v) (h1 : v.oneCell' = true) (hc : n + 1 ≤ c)
    (h : ∀ w', Own w' base 2 (some ⟨g, 0, none⟩) (n + 1) c (vs ++ [v]) → Below base w w' → (∀ k, k ≠ g → k < w.heap.size → w'.heap[k]? = w.heap[k]?) → w.heap.size ≤ w'.heap.size → K (a.put o.dst (.slice (some ⟨g, 0, none⟩) (n + 1) c)) w') : if Region.wanted o (yielded ops a.tmps) = true then Oper.wp Try.prog o a w K Q else E := by
  have hw : Region.wanted o (yielded ops a.tmps) = true := by simp [Region.wanted, hgd]
  rw [if_pos hw]
  obtain ⟨w', hrun, h2, h3, h4, h5⟩ := run_app1 w base o.type hown hr h1 hc
  unfold Oper.wp execOp
  simp only [ho, resolve, invoke, builtin, Sem.run_bind, Sem.run_pure, Result.andThen_ok, List.map_toArray, List.map_cons, List.map_nil, hs, hx, hrun]
  exact h w' h2 h3 h4 h5
end

theorem VarO.blk {w w' : World} {g : Nat} {x : Oc} (h : VarO w g x) (he : w'.heap[g]? = w.heap[g]?) : VarO w' g x :=
  ⟨fun j v hv => (World.cell?_of_block (a := ⟨g, 0 + j, none⟩) he).trans (h.1 j v hv), fun j hj => ⟨by rw [World.cell?_of_block (a := ⟨g, 0 + j, none⟩) he]; exact (h.2 j hj).1, by rw [World.frozen?_of_block (a := ⟨g, 0 + j, none⟩) he]; exact (h.2 j hj).2⟩⟩
theorem Own.oth {w w' : World} {base n c g gx : Nat} {e : TypeId} {vs : List Value} (h : Own w base e (some ⟨g, 0, none⟩) n c vs) (ho : ∀ k, k ≠ gx → w'.heap[k]? = w.heap[k]?) (hg : g ≠ gx) : Own w' base e (some ⟨g, 0, none⟩) n c vs := by
  refine ⟨h.1, ?_⟩
  rcases h.2 with h0 | ⟨g', cap, cur, hv, hb, hh, r⟩
  · exact .inl h0
  · have e : g' = g := by injection hv with h1; injection h1 with h1; injection h1 with h1; exact h1.symm
    subst e
    exact .inr ⟨g', cap, cur, hv, hb, (ho g' hg).trans hh, r⟩
theorem Own.ge {w : World} {base n c g : Nat} {e : TypeId} {vs : List Value} (h : Own w base e (some ⟨g, 0, none⟩) n c vs) : base ≤ g ∧ g < w.heap.size := World.ownsRow.lt h g rfl
theorem cell_apart (w : World) (j k : Nat) (v : Value) {a b : Nat} (h : ¬b = a) : (w.setCell ⟨a, j, none⟩ v).cell? ⟨b, k, none⟩ = w.cell? ⟨b, k, none⟩ := World.cell?_setCell_other _ _ _ _ (by simp; try omega)
def ManyRel (o : Oc) (ns : List Int) (w : World) (g2 g3 n : Nat) (l i : Value) (wr : World) : Prop :=
  ∃ (k : Nat) (xs : List Int), k ≤ n ∧ i = .int .i64 (k : Int) ∧ l = .slice (some ⟨g3, 0, none⟩) k n ∧ xs.sum = psO o (ns.take k).sum ∧ (∀ x ∈ xs, 0 ≤ x ∧ x ≤ 1152921504606846976) ∧
    VarO wr w.heap.size (aft o (ns.take k).sum) ∧ VarO wr g2 oz ∧ Own wr g3 2 (some ⟨g3, 0, none⟩) k n (sv xs) ∧ Below w.heap.size w wr
def ManyPost (o : Oc) (ns : List Int) (n : Nat) (w : World) (e : Ending) (w' : World) : Prop :=
  Below w.heap.size w w' ∧ ((∃ A c xs, e = .returned (.tuple #[.slice A n c, ov (aft o ns.sum), .int .i64 0]) ∧ Row w' w'.heap.size A n (sv xs) ∧ xs.sum = psO o ns.sum ∧ (∀ x ∈ xs, 0 ≤ x ∧ x ≤ 1152921504606846976)) ∨
    (e = .returned (.tuple #[.slice none 0 0, ov oz, .int .i64 2]) ∧ 1152921504606846976 < psO o ns.sum))

set_option maxRecDepth 100000 in
set_option maxHeartbeats 1000000 in
theorem many_any (p d r : Int) (A : Option Addr) (n c B : Nat) (ns : List Int) (w : World) (hk : Ok ⟨p, d, r⟩) (ha : Row w B A n (sv ns)) (hB : B ≤ w.heap.size) (hn : n ≤ 100) (hns : ∀ z ∈ ns, 0 ≤ z ∧ z ≤ 8589934592) :
    Calls Try.prog 10 #[ov ⟨p, d, r⟩, .slice A n c] w (ManyPost ⟨p, d, r⟩ ns n w) := by
  have HK := hid hk
  have HA := hid ha
  have HN := hid hns
  clear hk ha hns
  go_enter Try.func10, Try.ntmps10
  go_wp2_with (first
    | (refine wpList_mk0 rfl (.const (.int .i64 0)) (.tmp 21) rfl n rfl rfl (by omega) ?_; intro w4 own4 b4; have v4 := v3.keep b4; have q4 := q3.keep b4; have B4 : Hid (Below w.heap.size w w4) := hid (B3.out.trans (b4.mono B3.out.size)); have N_q_l : Hid (w1.heap.size < w3.heap.size) := hid q3.lt; clear v3 q3 b4)
    | (go_at_call 9; (with_reducible refine (check_ok p d r w2 HK.out).mono ?_); rintro e w3 ⟨rfl, b3⟩; have v3 := v2.keep b3; have q3 := q2.keep b3; have B3 : Hid (Below w.heap.size w w3) := hid (B2.out.trans (b3.mono B2.out.size)); clear v2 q2 b3)
    | (refine wpList_ldo rfl (.tmp 2) rfl rfl v2 ?_)
    | (refine wpList_alo rfl rfl ?_; intro w2 q2 b2 s2; have v2 := v1.keep b2; have B2 : Hid (Below w.heap.size w w2) := hid (B1.out.trans (b2.mono B1.out.size)); have N_v_q : Hid (w.heap.size < w1.heap.size) := hid v1.lt; clear v1 b2 s2)
    | (refine wpList_boxo (x := ⟨p, d, r⟩) rfl (.tmp 0) rfl rfl ?_; intro w1 v1 b1 s1; have B1 : Hid (Below w.heap.size w w1) := hid b1; clear b1 s1))
  go_loopw [8, 25] (ManyRel ⟨p, d, r⟩ ns w w1.heap.size w3.heap.size n) (fun _ i _ => n - (intOf i).toNat)
  case atStart =>
    have e := aft_zero HK.out
    exact ⟨0, [], Nat.zero_le _, rfl, rfl, by simp [e.2], (fun x hx => by cases hx), by simpa [e.1] using v4, q4, own4, B4.out⟩
  case round =>
    obtain ⟨k, xs, hkn, rfl, rfl, hsum, hxs, hv, hq, how, hbel⟩ := hrel
    by_cases hlt : k < n
    · obtain ⟨b, off, u, hA, hb, hu, hcell⟩ := (HA.out.below (hbel.mono hB)).at_ hlt
      subst hA
      obtain ⟨z, hz, rfl⟩ : ∃ z, ns[k]? = some z ∧ Value.int .i64 z = u := by simpa [sv] using hu
      have hz0 := HN.out z (List.mem_of_getElem? hz)
      have HST := hid (aft_step ⟨p, d, r⟩ (ns.take k).sum z)
      have HTK := hid (sum_take hz)
      have HO := hid (aft_ok ⟨p, d, r⟩ (ns.take k).sum HK.out)
      have VR := hid hv
      have QR := hid hq
      have OW := hid how
      have BR := hid hbel
      have HS := hid hsum
      have HX := hid hxs
      clear hv hq how hbel hsum hxs hu hz HA
      generalize aft ⟨p, d, r⟩ (ns.take k).sum = o1 at *
      by_cases hov : psO o1 z ≤ 1152921504606846976
      · have HR := hid (fun w => run_ok o1 z w HO.out hz0.1 (by omega) hov)
        have p0 := psO_nonneg HO.out hz0.1
        generalize hPP : psO o1 z = P at *
        generalize hAA : aft o1 z = X at *
        have v0 := VR.out
        go_wp2_with (first
          | (refine wpList_svo (x := X) rfl (.tmp 12) (.tmp 34) rfl rfl rfl x6 ?_; intro w7 x7 b7 o7 _)
          | (refine wpList_alo rfl rfl ?_; intro w6 x6 b6 s6)
          | (go_at_call 11; (with_reducible refine (HR.out wr).mono ?_); rintro e w5 ⟨rfl, b5⟩)
          | (refine wpList_ldo rfl (.tmp 2) rfl rfl v0 ?_))
        have v7 := ((v0.keep b5).keep b6).other o7 (by have := (v0.keep b5).lt; omega)
        have q7 := (((QR.out).keep b5).keep b6).other o7 (by have := ((QR.out).keep b5).lt; omega)
        have G3 : Hid (w3.heap.size < wr.heap.size) := hid OW.out.ge.2
        have GX : Hid (wr.heap.size ≤ w5.heap.size) := hid b5.size
        have own7 := ((OW.out.below b5).below b6).oth (w' := w7) (fun g hg => o7 g hg) (by have := G3.out; have := GX.out; omega)
        have S6 := s6
        have B7 : Hid (Below w.heap.size w w7) := hid (((BR.out.trans (b5.mono BR.out.size)).trans (b6.mono (Nat.le_trans BR.out.size b5.size))).trans (b7.mono (Nat.le_trans BR.out.size b5.size)))
        have L7 : Hid (w5.heap.size < w7.heap.size) := hid x7.lt
        have G1 : Hid (w.heap.size < w1.heap.size) := hid N_v_q.out
        obtain ⟨xp, xd, xr⟩ := X
        have c0 : w7.cell? ⟨w5.heap.size, 0, none⟩ = some (.int .i64 xp) := x7.c0
        have c1 : w7.cell? ⟨w5.heap.size, 1, none⟩ = some (.int .i64 xd) := x7.c1
        have c2 : w7.cell? ⟨w5.heap.size, 2, none⟩ = some (.int .i64 xr) := x7.c2
        have V7 := hid v7
        have Q7 := hid q7
        have X7 := hid x7
        have O7 := hid own7
        have HP := hid hPP
        have HY := hid hAA
        clear v7 q7 x7 own7 v0 x6 b5 b6 b7 o7 s6 v4 q4 own4 hcell hPP hAA
        generalize w5.heap.size = gx at *
        generalize hG3 : w3.heap.size = g3 at *
        generalize hG2 : w1.heap.size = g2 at *
        generalize hG : w.heap.size = g1 at *
        have hne : ¬ gx = g1 := by have := G1.out; have := N_q_l.out; have := G3.out; have := GX.out; omega
        have CA := hid (fun (w' : World) (j k : Nat) (v : Value) => cell_apart w' j k v hne)
        have O8 : Hid (Own (w7.alloc (.cells #[.int .i64 P] 2)).drew g3 2 (some ⟨g3, 0, none⟩) k n (sv xs)) := hid (O7.out.alloc _)
        have C8 : Hid ((w7.alloc (.cells #[.int .i64 P] 2)).drew.cell? ⟨w7.heap.size, 0, none⟩ = some (.int .i64 P)) := hid (by simp)
        have hk1 : k + 1 ≤ n := hlt
        have XA : Hid (VarO (w7.alloc (.cells #[.int .i64 P] 2)).drew gx ⟨xp, xd, xr⟩) := hid (X7.out.keep ((Below.refl _ _).alloc (Nat.le_refl _) _).drew)
        have VA : Hid (VarO (w7.alloc (.cells #[.int .i64 P] 2)).drew g1 o1) := hid (V7.out.keep ((Below.refl _ _).alloc (Nat.le_refl _) _).drew)
        have NX : Hid (gx ≠ g3) := hid (by have := G3.out; have := GX.out; omega)
        have NV : Hid (g1 ≠ g3) := hid (by have := G1.out; have := N_q_l.out; omega)
        go_region_held3 (fun w' => w'.cell? ⟨gx, 0, none⟩ = some (.int .i64 xp) ∧ w'.cell? ⟨gx, 1, none⟩ = some (.int .i64 xd) ∧ w'.cell? ⟨gx, 2, none⟩ = some (.int .i64 xr))
          (first | with_reducible exact ⟨c0, c1, c2⟩ | with_reducible exact ⟨d0, d1, d2⟩ | (simp only [CA.out]; exact ⟨d0, d1, d2⟩) | go_keep)
          (first
            | (refine step_app1 _ rfl (.tmp 40) (.tmp 42) rfl (by rfl) O8.out (by rfl) C8.out rfl hk1 ?_; intro w8 own8 b8 o8 s8; have x8 := XA.out.blk (o8 gx NX.out XA.out.lt); have d0 : w8.cell? ⟨gx, 0, none⟩ = some (.int .i64 xp) := x8.c0; have d1 : w8.cell? ⟨gx, 1, none⟩ = some (.int .i64 xd) := x8.c1; have d2 : w8.cell? ⟨gx, 2, none⟩ = some (.int .i64 xr) := x8.c2; have v8 := VA.out.blk (o8 g1 NV.out VA.out.lt); have e0 := v8.c0; have e1 := v8.c1; have e2 := v8.c2; have f0 : w8.frozen? ⟨g1, 0, none⟩ = false := (v8.2 0 (by omega)).2; have f1 : w8.frozen? ⟨g1, 1, none⟩ = false := (v8.2 1 (by omega)).2; have f2 : w8.frozen? ⟨g1, 2, none⟩ = false := (v8.2 2 (by omega)).2))
        have v9 := varo_stored v8.2 ⟨xp, xd, xr⟩
        have o9 := setCells_oth g1 (enco ⟨xp, xd, xr⟩) 0 w8
        have own9 := own8.oth (w' := w8.setCells g1 0 (enco ⟨xp, xd, xr⟩)) (fun g hg => o9.2 g hg) (fun h => NV.out h.symm)
        have q8 := (Q7.out.keep ((Below.refl _ _).alloc (Nat.le_refl _) (.cells #[.int .i64 P] 2)).drew).blk (o8 g2 (by have := N_q_l.out; omega) (Q7.out.keep ((Below.refl _ _).alloc (Nat.le_refl _) (.cells #[.int .i64 P] 2)).drew).lt)
        have q9 := q8.other o9.2 (by have := G1.out; omega)
        have b9 : Below g1 w (w8.setCells g1 0 (enco ⟨xp, xd, xr⟩)) := ((B7.out.trans (((Below.refl _ _).alloc (Nat.le_refl _) (.cells #[.int .i64 P] 2)).drew.mono (by have := B7.out.size; omega))).trans (b8.mono (by have := G1.out; have := N_q_l.out; omega))).trans o9.1
        clear c0 c1 c2 d0 d1 d2 e0 e1 e2 f0 f1 f2 o8 s8 b8 x8 v8 q8 own8 o9
        change Exit.inBlock _ _ Exit.normal _ (w8.setCells g1 0 (enco ⟨xp, xd, xr⟩))
        generalize w8.setCells g1 0 (enco ⟨xp, xd, xr⟩) = w9 at *
        have V9 := hid v9
        have O9 := hid own9
        have Q9 := hid q9
        have B9 := hid b9
        clear v9 own9 q9 b9
        subst hG hG2 hG3
        go_wp2_with fail
        go_roundw
        case rel =>
          have e := HST.out
          refine ⟨k + 1, xs ++ [P], by omega, by go_num, rfl, ?_, ?_, ?_, Q9.out, by rw [sv_app]; exact O9.out, B9.out⟩
          · rw [sum_app, HTK.out, e.1, HS.out]
          · intro x hx
            rcases List.mem_append.1 hx with h | h
            · exact HX.out x h
            · simp at h; subst h; exact ⟨p0, hov⟩
          · rw [HTK.out, e.2]; exact V9.out
        case measure => simp [intOf]; omega
      · have HR := hid (fun w => run_over o1 z w HO.out hz0.1 (by omega) (by omega))
        have v0 := VR.out
        have q0 := QR.out
        have BR0 := BR.out
        go_wp2_with (first
          | (refine wpList_svo (x := oz) rfl (.tmp 5) (.tmp 38) rfl rfl rfl q7 ?_; intro w8 q8 b8 o8 _)
          | (refine wpList_svo (x := oz) rfl (.tmp 12) (.tmp 34) rfl rfl rfl x6 ?_; intro w7 x7 b7 o7 _; have q7 := q6.other o7 (by have := q5.lt; omega))
          | (refine wpList_alo rfl rfl ?_; intro w6 x6 b6 s6; have q6 := q5.keep b6)
          | (go_at_call 11; (with_reducible refine (HR.out wr).mono ?_); rintro e w5 ⟨rfl, b5⟩; have q5 := q0.keep b5)
          | (refine wpList_ldo rfl (.tmp 2) rfl rfl v0 ?_))
        refine bodyPost_ret (w := w8) (results_101 Try.results10 _ rfl q8) rfl ?_
        refine ⟨(((BR.out.trans (b5.mono BR.out.size)).trans (b6.mono (Nat.le_trans BR.out.size b5.size))).trans (b7.mono (Nat.le_trans BR.out.size b5.size))).trans (b8.mono (by have := N_v_q.out; omega)), .inr ⟨rfl, ?_⟩⟩
        have h1 := HST.out.1
        have h3 := psO_le HK.out (sum_take_le (k + 1) (fun x hx => (HN.out x hx).1) : (ns.take (k + 1)).sum ≤ ns.sum)
        have h4 := psO_nonneg HK.out (sum_nonneg (fun x hx => (HN.out x (List.mem_of_mem_take hx)).1) : 0 ≤ (ns.take k).sum)
        rw [HTK.out] at h3
        omega
    · obtain rfl : k = n := by omega
      have eT : ns.take k = ns := List.take_of_length_le (by have := HA.out.1; rw [sv_len] at this; omega)
      rw [eT] at hsum hv
      have VR := hid hv
      have QR := hid hq
      have OW := hid how
      have BR := hid hbel
      have HS := hid hsum
      have HX := hid hxs
      have G3 : Hid (w3.heap.size < wr.heap.size) := hid how.ge.2
      clear hv hq how hbel hsum hxs eT
      obtain ⟨⟨ap, ad, ar⟩, hAA⟩ : ∃ X, aft ⟨p, d, r⟩ ns.sum = X := ⟨_, rfl⟩
      rw [hAA] at VR
      have HY := hid hAA
      clear hAA
      obtain ⟨a0, a1, a2⟩ : wr.cell? ⟨w.heap.size, 0, none⟩ = some (.int .i64 ap) ∧ wr.cell? ⟨w.heap.size, 1, none⟩ = some (.int .i64 ad) ∧ wr.cell? ⟨w.heap.size, 2, none⟩ = some (.int .i64 ar) := ⟨VR.out.c0, VR.out.c1, VR.out.c2⟩
      obtain ⟨⟨y0, k0⟩, ⟨y1, k1⟩, ⟨y2, k2⟩⟩ : (∃ u, wr.cell? ⟨w1.heap.size, 0, none⟩ = some u) ∧ (∃ u, wr.cell? ⟨w1.heap.size, 1, none⟩ = some u) ∧ (∃ u, wr.cell? ⟨w1.heap.size, 2, none⟩ = some u) := ⟨⟨_, QR.out.c0⟩, ⟨_, QR.out.c1⟩, ⟨_, QR.out.c2⟩⟩
      obtain ⟨j0, j1, j2⟩ : wr.frozen? ⟨w1.heap.size, 0, none⟩ = false ∧ wr.frozen? ⟨w1.heap.size, 1, none⟩ = false ∧ wr.frozen? ⟨w1.heap.size, 2, none⟩ = false := ⟨(QR.out.2 0 (by omega)).2, (QR.out.2 1 (by omega)).2, (QR.out.2 2 (by omega)).2⟩
      go_wp2_with fail
      clear v4 q4 own4
      generalize hG3 : w3.heap.size = g3 at *
      generalize hG2 : w1.heap.size = g2 at *
      generalize hG : w.heap.size = g1 at *
      have n1 : ¬ g1 = g2 := by have := N_v_q.out; omega
      go_region
      go_wp2_with fail
      have q7 := varo_stored QR.out.2 ⟨ap, ad, ar⟩
      have o7 := setCells_oth g2 (enco ⟨ap, ad, ar⟩) 0 wr
      have b7 : Below g1 w (wr.setCells g2 0 (enco ⟨ap, ad, ar⟩)) := BR.out.trans (o7.1.mono (by have := N_v_q.out; omega))
      have own7 := OW.out.oth (w' := wr.setCells g2 0 (enco ⟨ap, ad, ar⟩)) (fun g hg => o7.2 g hg) (by have := N_q_l.out; omega)
      clear a0 a1 a2 k0 k1 k2 j0 j1 j2
      generalize hV : wr.setCells g2 0 (enco ⟨ap, ad, ar⟩) = V at q7 b7 own7
      simp only [World.setCells, enco, Nat.reduceAdd] at hV
      rw [hV]
      clear hV o7
      refine bodyPost_ret (w := V.drew) (results_101 Try.results10 _ rfl (show VarO V.drew _ _ from q7)) rfl ?_
      exact ⟨(show Below _ _ V.drew from by rw [hG]; exact b7.drew), .inl ⟨some ⟨g3, 0, none⟩, k, xs, by rw [HY.out]; rfl, (show Row V.drew _ _ _ _ from own7.row), HS.out, HX.out⟩⟩
end Go.Proofs.Ytmmcnbhhdgnljaa
