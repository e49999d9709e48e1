/-
  Contract of check.within: of all statements whether each is in a block; of at most 2000 statements.
-/
import Derived.Test.YtpkoboohnbkpoaaGreatDoorK6
import Derived.Test.YtpkoboohnbkpoaaGreatDoorJZM
import Derived.Test.YtpkoboohnbkpoaaGreatDoorJZB
namespace Go.Proofs.YtpkoboohnbkpoaaGreatDoor
open Go Go.RowKit Go.Maps

/-! ### Slices of what has one cell -/
/-- A type of one cell, and slices of it. -/
structure S1 (P : Program) where
  T : TypeId
  S : TypeId
  by_ : Nat
  z : Value
  undS : P.underlying S = some (.slice T)
  info : (P.info? T).map (fun i => (i.zero, i.size, i.bytes)) = some (some z, 1, by_)
  zc : z.cells.size = 1
  small : by_ ≤ 10000
namespace S1
variable {P : Program} (σ : S1 P)
def Ow (w : World) (base : Nat) (A : Option Addr) (n c : Nat) (vs : List Value) : Prop := w.ownsRow base σ.T 1 (.slice A n c) n vs
section
variable {σ} {w w' : World} {base n c : Nat} {A : Option Addr} {vs : List Value}
theorem Ow.len (h : σ.Ow w base A n c vs) : vs.length = n := by have := h.1; omega
theorem Ow.nil (w : World) (base : Nat) : σ.Ow w base none 0 0 [] := World.ownsRow_nil w base σ.T 1
theorem Ow.below (h : σ.Ow w base A n c vs) (hb : Below w.heap.size w w') : σ.Ow w' base A n c vs := by
  refine ⟨h.1, ?_⟩
  rcases h.2 with h0 | ⟨g, cap, cur, hv, hg, hh, r⟩
  · exact .inl h0
  · exact .inr ⟨g, cap, cur, hv, hg, (hb.block g (Array.getElem?_eq_some_iff.1 hh).1).trans hh, r⟩
theorem Ow.alloc (h : σ.Ow w base A n c vs) (o : Obj) : σ.Ow (w.alloc o) base A n c vs := World.ownsRow.alloc h o
theorem Ow.drew (h : σ.Ow w base A n c vs) : σ.Ow w.drew base A n c vs := h.below ((Below.refl _ _).drew)
theorem Ow.at_ (h : σ.Ow w base A n c vs) (hn : 0 < n) : ∃ b, A = some ⟨b, 0, none⟩ ∧ base ≤ b ∧ b < w.heap.size ∧ w.rangeAt b 0 vs := by
  rcases h.2 with ⟨_, h0⟩ | ⟨g, cap, cur, hv, hb, hg, _⟩
  · omega
  · have hA : A = some ⟨g, 0, none⟩ := by injection hv
    subst hA
    refine ⟨g, rfl, hb, (Array.getElem?_eq_some_iff.1 hg).1, fun j u hu => ?_⟩
    have := h.cells (g := g) rfl j u hu
    rwa [Nat.zero_add, ← Nat.zero_add j, ← plain_add g 0 j]
end
section
variable {w : World} {ops : Array Oper} {rest : List Oper} {o : Oper} {a : Act} {Q : Exit → Act → World → Prop}
theorem run_push {b base n c : Nat} {A : Option Addr} {vs : List Value} {x : Value} (ty : TypeId) (hown : σ.Ow w base A n c vs) (hrow : w.rangeAt b 0 [x]) (h1 : x.oneCell' = true) (hn : n ≤ 1000000) (hbase : base ≤ w.heap.size) :
    ∃ A' c' w', (Builtin.append_ #[σ.S, σ.S] ty #[.slice A n c, .slice (some ⟨b, 0, none⟩) 1 1]).run P w = .ok (.slice A' (n + 1) c') w' ∧ σ.Ow w' base A' (n + 1) c' (vs ++ [x]) ∧ w.grownBy w' (Value.ownBlock (.slice A n c)) := by
  obtain ⟨i, hi0, hi1, hi2, hi3⟩ := info_parts σ.info
  have hsm := σ.small
  have hmul : (n + 1) * σ.by_ ≤ (n + 1) * 10000 := Nat.mul_le_mul_left _ hsm
  obtain ⟨v', w', hrun, h2, h3, _, _⟩ := run_append_own_at (P := P) w base σ.S ty σ.T i σ.z 1 σ.by_ σ.undS hi0 hi1 hi2 hi3 σ.zc (by omega) (.slice A n c) n vs hown ⟨b, 0, none⟩ 1 1 [x] (by simp)
    (fun j u hu => by rw [plain_add]; exact hrow j u hu) (fun u hu => by simp at hu; rw [hu]; exact h1) (by unfold maxLen; omega) (by omega) hbase
  rcases h2.2 with ⟨rfl, h0⟩ | ⟨g, cap, cur, rfl, r⟩
  · omega
  · exact ⟨_, _, w', hrun, h2, h3⟩
theorem grown_below {base n c : Nat} {A : Option Addr} {vs : List Value} {w' : World} (hown : σ.Ow w base A n c vs) (hbase : base ≤ w.heap.size) (hg : w.grownBy w' (Value.ownBlock (.slice A n c))) : Below base w w' :=
  (Below.refl _ _).grown hg hbase (fun k hk => (World.ownsRow.lt hown k hk).1)
theorem wp_push {b base n c : Nat} {A : Option Addr} {vs : List Value} {x : Value} (hgd : o.guard = none) (s e : Operand) (ho : o.op = .call { callee := .builtin .append, args := #[s, e], argTypes := #[σ.S, σ.S] })
    (hs : a.eval s = .slice A n c) (hown : σ.Ow w base A n c vs) (hx : a.eval e = .slice (some ⟨b, 0, none⟩) 1 1) (hrow : w.rangeAt b 0 [x]) (h1 : x.oneCell' = true) (hn : n ≤ 1000000) (hbase : base ≤ w.heap.size)
    (h : ∀ A' c' w', σ.Ow w' base A' (n + 1) c' (vs ++ [x]) → w.grownBy w' (Value.ownBlock (.slice A n c)) → Below base w w' → wpList P ops Q rest (a.put o.dst (.slice A' (n + 1) c')) w') : wpList P ops Q (o :: rest) a w := by
  refine wpList_plain hgd fun K hK => ?_
  obtain ⟨A', c', w', hrun, h2, h3⟩ := run_push σ o.type hown hrow h1 hn hbase
  unfold Oper.wp execOp
  simp only [ho, resolve, invoke, builtin, Sem.run_bind, Sem.run_pure, Result.andThen_ok, List.map_toArray, List.map_cons, List.map_nil, hs, hx, hrun]
  exact hK _ _ (h A' c' w' h2 h3 (grown_below σ hown hbase h3))
end
end S1
def blS : S1 Tryz.prog where
  T := 4
  S := 89
  by_ := 1
  z := .bool false
  undS := Tryz.underlying89
  info := by kernel_rfl
  zc := rfl
  small := by omega
def bvs (l : List Bool) : List Value := l.map Value.bool
/-- A block that was there stands where a slice of the call's own grows, if it lies above what the slice owns. -/
theorem grown_var {w w' : World} {g : Nat} {x : Sm} {P : Program} {σ : S1 P} {base n c : Nat} {A : Option Addr} {vs : List Value} {w0 : World} (hown : σ.Ow w0 base A n c vs) (hv : smS.Var w g x) (hg0 : w0.heap.size ≤ g) (hg : w.grownBy w' (Value.ownBlock (.slice A n c))) : smS.Var w' g x := by
  have e : w'.heap[g]? = w.heap[g]? := hg.block g hv.lt fun e => by have := (World.ownsRow.lt hown g e.symm).2; omega
  exact ⟨fun j v hj => (World.cell?_of_block (a := ⟨g, 0 + j, none⟩) e).trans (hv.1 j v hj), fun j hj => ⟨by rw [World.cell?_of_block (a := ⟨g, 0 + j, none⟩) e]; exact (hv.2 j hj).1, by rw [World.frozen?_of_block (a := ⟨g, 0 + j, none⟩) e]; exact (hv.2 j hj).2⟩⟩
set_option maxRecDepth 100000 in
set_option maxHeartbeats 1000000 in
theorem within_any (f : Fo) (w : World) (K : Nat → Prop) (A : Option Addr) (n c : Nat) (ht : TrS w K A n f) (hc : f.count ≤ 2000) :
    Calls Tryz.prog 56 #[.slice A n c] w fun e w' => ∃ A' n' c', e = .returned (.slice A' n' c') ∧ blS.Ow w' w.heap.size A' n' c' (bvs f.inL) ∧ Below w.heap.size w w' := by
  obtain ⟨xs, hx, htr⟩ := ht
  have HX := hid hx
  have HL := hid (show f.len = n by rw [← htr.len, hx.1])
  have HC := hid hc
  have HT := hid htr
  have hn : (n : Int) ≤ 2000 := by have := f.len_le; have := HL.out; omega
  clear hx hc htr
  go_enter Tryz.func56, Tryz.ntmps56
  go_wp2
  go_loopw [3, 8] (fun v3 v8 wr => ∃ (i k : Nat) (B : Option Addr) (d : Nat) (l : List Bool) (r : Fo), v3 = .slice B k d ∧ v8 = .int .i64 (i : Nat) ∧ i ≤ n ∧ blS.Ow wr w.heap.size B k d (bvs l) ∧ l ++ r.inL = f.inL ∧ Tr w K r (xs.drop i) ∧ Below w.heap.size w wr) (fun _ v8 _ => n - (intOf v8).toNat)
  case atStart => exact ⟨0, 0, none, 0, [], f, rfl, rfl, Nat.zero_le _, S1.Ow.nil _ _, rfl, by simpa using HT.out, Below.refl _ _⟩
  case round =>
    obtain ⟨i, k, B, d, l, r, rfl, rfl, hi, how, hl, htr, hbel⟩ := hrel
    have BW := hid hbel
    have OW := hid how
    have HLL := hid hl
    have hkl : k + r.count ≤ 2000 := by
      have h1 := congrArg List.length hl
      have h2 := how.len
      simp only [bvs, List.length_map] at h2
      rw [List.length_append, Fo.inL_len, Fo.inL_len, h2] at h1
      have := HC.out; omega
    clear how hl
    obtain ⟨w0, hw0⟩ : ∃ w0, w0 = wr := ⟨_, rfl⟩
    subst hw0
    by_cases hlt : i < n
    · obtain ⟨wd, ns, bl, y, nx, rfl, _, _, _, hy, hnx⟩ := htr.step (by rw [HX.out.1]; exact hlt)
      obtain ⟨b, o, rfl, hb, hcell⟩ := (HX.out.size.below hbel).at_ hlt
      generalize hxe : smS.nth xs i = x at *
      clear hxe
      have r1 : w0.rangeAt b (o + i * 4) (smS.enc x) := hcell
      have HN := hid hnx
      have HYT := hid hy
      have hyc : k + 1 + y.count + nx.count ≤ 2000 := by simp only [Fo.count] at hkl; omega
      have HYC := hid hyc
      have hk1 : k ≤ 1000 * 1000 := by omega
      clear hcell hbel htr hy hnx hb hkl hyc
      go_wp2_with (first
        | (go_at_call 38; have h9 := count_any y w6 K x.bA x.bn x.bc (HYT.out.below B6.out) (by have := HYC.out; omega); (with_reducible refine h9.mono ?_); rintro e w7 ⟨rfl, b7⟩; have O7 := hid (O6.out.below b7); have B7 := hid (B6.out.trans (b7.mono B6.out.size)); clear b7)
        | (refine S1.wp_push blS (A := B) (c := d) (vs := bvs l) (base := w.heap.size) (x := .bool false) rfl (.tmp 12) (.tmp 13) rfl rfl ((OW.out.below B03.out).alloc _) rfl (range_new w3 _ _) rfl hk1 (Nat.le_trans B3.out.size (by simp)) ?_; intro A6 c6 w6 own6 gr6 bl6; have Q6 := hid (grown_var OW.out ((Q3.out).keep ((Below.refl _ _).alloc (Nat.le_refl _) _)) (Nat.le_refl _) gr6); have B6 := hid ((B3.out.alloc (by exact B3.out.size) _).trans bl6); have O6 := hid own6; have c3 : w6.cell? ⟨w0.heap.size, 3, none⟩ = some (.slice x.bA x.bn x.bc) := Q6.out.cell (j := 3) rfl; clear own6 gr6 bl6)
        | (refine Sh.wp_sv smS (x := x) rfl (.tmp 5) (.tmp 11) rfl rfl (by rfl) q2 ?_; intro w3 q3 b3 o3 s3; have Q3 := hid q3; have B03 := hid (B2.out.trans (b3.mono (Nat.le_refl _))); have B3 := hid (BW.out.trans (B03.out.mono BW.out.size)); clear q3 b3 o3 s3)
        | (refine Sh.wp_al smS rfl rfl ?_; intro w2 q2 b2 s2; have B2 := hid b2; clear b2 s2)
        | (refine Sh.wp_ld smS rfl (.tmp 10) rfl rfl r1 ?_))
      have O7' := hid (show blS.Ow w7 w.heap.size A6 (k + 1) c6 (bvs (l ++ [false])) from by simpa [bvs] using O7.out)
      have HK2 := hid (show k + 1 + y.count ≤ 2000 by have := HYC.out; omega)
      clear c3 h9 O7 r1 q2
      go_loopw [3, 18] (fun v3 v18 wr => ∃ (j : Nat) (B2 : Option Addr) (d2 : Nat), v3 = .slice B2 (k + 1 + j) d2 ∧ v18 = .int .i64 (j : Nat) ∧ j ≤ y.count ∧ blS.Ow wr w.heap.size B2 (k + 1 + j) d2 (bvs (l ++ [false] ++ List.replicate j true)) ∧ Below w.heap.size w wr) (fun _ v18 _ => y.count - (intOf v18).toNat)
      case atStart => exact ⟨0, A6, c6, rfl, rfl, Nat.zero_le _, by simpa using O7'.out, B7.out⟩
      case round =>
        obtain ⟨j, B2, d2, rfl, rfl, hj, how2, hb2⟩ := hrel
        have OW2 := hid how2
        have BW2 := hid hb2
        have hbs := hb2.size
        clear how2 hb2
        by_cases hlt2 : j < y.count
        · have hk2 : k + 1 + j ≤ 1000 * 1000 := by have := HK2.out; omega
          go_wp2_with (first
            | (refine S1.wp_push blS (A := B2) (c := d2) (base := w.heap.size) (x := .bool true) rfl (.tmp 20) (.tmp 21) rfl rfl (OW2.out.alloc _) rfl (range_new wr _ _) rfl hk2 (Nat.le_trans hbs (by simp)) ?_; intro A8 c8 w8 own8 gr8 bl8; have B8 := hid ((BW2.out.alloc (by exact hbs) _).trans bl8); have O8 := hid own8; clear own8 gr8 bl8))
          go_roundw
          case rel => exact ⟨j + 1, A8, c8, by rw [Nat.add_assoc], by go_num, by omega, by have := O8.out; rw [List.replicate_succ']; simpa [bvs, Nat.add_assoc] using this, B8.out⟩
          case measure => simp [intOf]; omega
        · obtain rfl : j = y.count := by omega
          have HLX := hid (show l ++ [false] ++ List.replicate y.count true ++ nx.inL = f.inL by rw [← HLL.out]; simp [Fo.inL])
          clear hbs hj
          go_wp2
          go_roundw
          case rel => exact ⟨i + 1, k + 1 + y.count, B2, d2, l ++ [false] ++ List.replicate y.count true, nx, rfl, by go_num, by omega, OW2.out, HLX.out, HN.out, BW2.out⟩
          case measure => simp [intOf]; omega
    · obtain rfl : i = n := by omega
      have hr := htr.done (by rw [HX.out.1]; exact Nat.le_refl _)
      subst hr
      have hm2 : l = f.inL := by have := HLL.out; simpa [Fo.inL] using this
      have HM2 := hid hm2
      clear hm2 htr hbel
      go_wp2
      go_ret
      exact ⟨B, k, d, rfl, by rw [← HM2.out]; exact OW.out, BW.out⟩
end Go.Proofs.YtpkoboohnbkpoaaGreatDoor
