/-
  The contract of the reader's list, at every reader of at most a million tokens, however deep; by induction over how many tokens are left.
-/
import Derived.Test.YtinjhnflnfpoeaaGreatDoorPT
namespace Go.Proofs.YtinjhnflnfpoeaaGreatDoor
open Go Go.RowKit Go.Joins

theorem stm_any {n : Nat} (hl : ListOk n) {d : Nat} {w : World} {g b c many : Nat} {pre rest : List Tk} {t : Tk} (hd : d ≤ 6) (hn : rest.length ≤ n) (h : Rd w g b c pre (t :: rest) many) :
    Calls Tryz.prog 57 #[.pointer (some ⟨g, 0, none⟩), .string (strB t.s), .int .i64 (d : Nat)] w (SmPost (stmX (lstF n) d many t rest) w g b c pre (t :: rest)) := by
  by_cases hm : many = 2000
  · exact stm_full h hm
  unfold stmX
  rw [if_neg hm]
  unfold stmF
  cases hf : fewN rest with
  | false => exact stm_nums h hm hf
  | true =>
    rw [if_pos rfl]
    have hlen : (restF rest).length ≤ n := Nat.le_trans (List.dropWhile_suffix isN).length_le hn
    generalize hr : restF rest = r at hlen
    match r, hr with
    | [], hr => exact stm_end h hm hf hr
    | u :: r2, hr =>
      unfold endF
      simp only
      by_cases hu1 : u.kind = 1
      · rw [if_pos hu1]; exact stm_word h hm hf hr hu1
      rw [if_neg hu1]
      by_cases hu : u.s = [59]
      · rw [if_pos hu]; exact stm_stop h hm hf hr hu1 hu
      rw [if_neg hu]
      by_cases hu2 : u.s = [123]
      · rw [if_pos hu2]
        have hr2 : r2.length ≤ n := by simp at hlen; omega
        by_cases h6 : 6 ≤ d
        · rw [if_pos h6]
          exact stm_open_bad h hm hf hr hu1 hu2 hl hd hr2 (by unfold blkX; rw [if_pos (by omega)])
        rw [if_neg h6]
        have hx : blkX (lstF n) (d + 1) (many + 1) u r2 = blkF (lstF n) (d + 1) (many + 1) r2 := by unfold blkX; rw [if_neg (by omega)]
        generalize blkF (lstF n) (d + 1) (many + 1) r2 = x at hx
        match x with
        | .bad e r3 => exact stm_open_bad h hm hf hr hu1 hu2 hl hd hr2 hx
        | .ok f m r3 => exact stm_open_ok h hm hf hr hu1 hu2 hl hd hr2 hx
      · rw [if_neg hu2]; exact stm_other h hm hf hr hu1 hu hu2

theorem lst_word (n d many : Nat) (t : Tk) (r : List Tk) (h1 : t.kind = 1) : lstF (n + 1) d many (t :: r) = match stmX (lstF n) d many t r with
    | .bad e r2 => .bad e r2
    | .ok x m r2 => preR x (lstF n d m r2) := by
  rw [lstF, if_pos h1]
  unfold stmX
  by_cases hm : many = 2000
  · rw [if_pos hm, if_pos hm]
  · rw [if_neg hm, if_neg hm]
    generalize stmF (lstF n) t.s d (many + 1) r = x
    match x with
    | .bad e r2 => rfl
    | .ok x m r2 =>
      simp only
      generalize lstF n d m r2 = y
      cases y <;> rfl
theorem lst_end (n d many : Nat) : lstF n d many [] = .ok .nil many [] := by cases n <;> rfl
theorem lst_none (n d many : Nat) (t : Tk) (r : List Tk) (h1 : ¬ t.kind = 1) (hn : (t :: r).length ≤ n) : lstF n d many (t :: r) = .ok .nil many (t :: r) := by
  cases n with
  | zero => simp at hn
  | succ n => rw [lstF, if_neg h1]
theorem stmX_one {n d many : Nat} {t : Tk} {r : List Tk} {f : Fo} {m : Nat} {r2 : List Tk} (h : stmX (lstF n) d many t r = .ok f m r2) : f.len = 1 ∧ m = many + f.count ∧ r2.length ≤ r.length := by
  unfold stmX at h
  split at h
  · cases h
  · have h1 := stm_one (fun d m ts => lst_many n d m ts) h
    have h2 := stm_short (fun d m ts => lst_short n d m ts) t.s d (many + 1) r
    rw [h] at h2
    obtain ⟨p, hp⟩ := h2
    exact ⟨h1.1, h1.2.1, by rw [hp]; simp⟩

section
variable {P : Program} {α : Type} (σ : Sh P α) {w : World} {x : α} {ops : Array Oper} {rest : List Oper} {o : Oper} {a : Act} {Q : Exit → Act → World → Prop}
theorem Sh.run_push2 {b base n c : Nat} {A : Option Addr} {l : List α} (ty : TypeId) (hown : σ.Ow w base A n c l) (hrow : w.rangeAt b 0 (σ.enc x)) (hn : n ≤ 1000000) (hbase : base ≤ w.heap.size) :
    ∃ A' c' w', (Builtin.append_ #[σ.S, σ.S] ty #[.slice A n c, .slice (some ⟨b, 0, none⟩) 1 1]).run P w = .ok (.slice A' (n + 1) c') w' ∧ σ.Ow w' base A' (n + 1) c' (l ++ [x]) ∧ w.grownBy w' (Value.ownBlock (.slice A n c)) ∧
      (Value.ownBlock (.slice A' (n + 1) c') = Value.ownBlock (.slice A n c) ∨ Value.ownBlock (.slice A' (n + 1) c') = some w.heap.size) := by
  obtain ⟨i, hi0, hi1, hi2, hi3⟩ := info_parts σ.info
  have hsm := σ.small
  have hmul : (n + 1) * σ.by_ ≤ (n + 1) * 10000 := Nat.mul_le_mul_left _ hsm
  obtain ⟨v', w', hrun, h2, h3, _, h5⟩ := run_append_own_at (P := P) w base σ.S ty σ.T i (.agg (σ.enc σ.z).toArray) σ.N σ.by_ σ.undS hi0 hi1 hi2 hi3 (by simp [Value.cells, σ.len]) σ.pos (.slice A n c) n (σ.flat l) hown ⟨b, 0, none⟩ 1 1 (σ.enc x) (by rw [σ.len, Nat.one_mul])
    (fun j u hu => by rw [plain_add]; exact hrow j u hu) (σ.one x) (by unfold maxLen; omega) (by omega) hbase
  have e1 : σ.flat l ++ σ.enc x = σ.flat (l ++ [x]) := by rw [Sh.flat_app]; simp [Sh.flat]
  rw [e1] at h2
  rcases h2.2 with ⟨rfl, h0⟩ | ⟨g, cap, cur, rfl, r⟩
  · omega
  · exact ⟨_, _, w', hrun, h2, h3, h5⟩
theorem Sh.wp_push2 {b base n c : Nat} {A : Option Addr} {l : List α} (hgd : o.guard = none) (s e : Operand) (ho : o.op = .call { callee := .builtin .append, args := #[s, e], argTypes := #[σ.S, σ.S] })
    (hs : a.eval s = .slice A n c) (hown : σ.Ow w base A n c l) (hx : a.eval e = .slice (some ⟨b, 0, none⟩) 1 1) (hrow : w.rangeAt b 0 (σ.enc x)) (hn : n ≤ 1000000) (hbase : base ≤ w.heap.size)
    (h : ∀ A' c' w', σ.Ow w' base A' (n + 1) c' (l ++ [x]) → w.grownBy w' (Value.ownBlock (.slice A n c)) → (Value.ownBlock (.slice A' (n + 1) c') = Value.ownBlock (.slice A n c) ∨ Value.ownBlock (.slice A' (n + 1) c') = some w.heap.size) → wpList P ops Q rest (a.put o.dst (.slice A' (n + 1) c')) w') : wpList P ops Q (o :: rest) a w := by
  refine wpList_plain hgd fun K hK => ?_
  obtain ⟨A', c', w', hrun, h2, h3, h4⟩ := σ.run_push2 o.type hown hrow hn hbase
  unfold Oper.wp execOp
  simp only [ho, resolve, invoke, builtin, Sem.run_bind, Sem.run_pure, Result.andThen_ok, List.map_toArray, List.map_cons, List.map_nil, hs, hx, hrun]
  exact hK _ _ (h A' c' w' h2 h3 h4)
end

/-- A statement's value behind a list, in the words of its list. -/
def RndPost (x : Res) (w : World) (g b c : Nat) (pre rest : List Tk) (e : Ending) (w' : World) : Prop := SmPost x w g b c pre rest e w'

set_option maxHeartbeats 1000000 in
set_option maxRecDepth 100000 in
theorem list_step (N : Nat) (hl : ∀ k, k < N → ListOk k) : ListOk N := by
  intro deep w g b c many pre rest hd hlen h
  have HG := hid (And.intro h.lt h.ltb)
  have HR := hid h
  have hd6 : (deep : Int) ≤ 6 := by omega
  have HS := hid (fun k (hk : k < N) w many pre rest t (hn : rest.length ≤ k) (h : Rd w g b c pre (t :: rest) many) => stm_any (hl k hk) hd hn h)
  have hlen := hid hlen
  clear h hl hd
  obtain ⟨X, hX⟩ : ∃ X, lstF N deep many rest = X := ⟨_, rfl⟩
  rw [hX]
  have hX := hid hX
  go_enter Tryz.func39, Tryz.ntmps39
  go_wp2
  go_loopw [6] (fun v6 wr => ∃ (done todo : List Tk) (k many' : Nat) (A : Option Addr) (m c' : Nat) (f : Fo) (xs : List Sm), v6 = .slice A m c' ∧ rest = done ++ todo ∧ todo.length ≤ k ∧ k ≤ N ∧ X = preR f (lstF k deep many' todo) ∧ many' = many + f.count ∧ Lo wr w.heap.size A m c' f xs ∧ Rd wr g b c (pre ++ done) todo many' ∧ Mov g w wr) (fun v6 _ => 3000 - lenOf v6)
  case atStart => exact ⟨[], rest, N, many, none, 0, 0, .nil, [], rfl, rfl, hlen.out, Nat.le_refl _, by rw [preR_nil]; exact hX.out.symm, rfl, Lo.nil _ _, by simpa using HR.out, Mov.refl _ _⟩
  case round =>
    obtain ⟨done, todo, k, many', A, m, c', f, xs, rfl, hre, htk, hkN, hXe, hmany, hlo, hrd, hmv⟩ := hrel
    have hm2 : m ≤ 2000 := by have := hlo.len; have := f.len_le; have := hrd.le2; omega
    match todo with
    | [] =>
      have HN := hid (now_is hrd (v := .iface 74 (.agg #[])) rfl)
      have ha := as_ew (.agg #[])
      rw [lst_end] at hXe
      have HX := hid hXe
      have HM := hid hmv
      have HD := hid (And.intro hrd hlo)
      have HE := hid hre
      clear hrd hmv hlo hXe htk hX hre
      go_wp2_with (first
        | (go_at_call 40; refine HN.out.mono ?_; rintro e w1 ⟨rfl, b1⟩; have B1 := hid b1; clear b1))
      go_ret2
      refine ⟨HM.out.then B1.out (Nat.le_of_lt HG.out.1), ?_⟩
      rw [HX.out]
      show Went _ _ _ _ _ _ many' _ ∧ _
      refine ⟨⟨done, HE.out, HD.out.1.below B1.out⟩, A, m, c', rfl, ?_⟩
      rw [Fo.app_nil]
      exact (HD.out.2.below B1.out).tree
    | t :: r =>
      rcases kinds t r with ⟨h1, hv⟩ | ⟨h2, hv⟩ | ⟨h1, h2, hv⟩
      · obtain ⟨k, rfl⟩ : ∃ k2, k = k2 + 1 := ⟨k - 1, by simp at htk; omega⟩
        have htk2 : r.length ≤ k := by simpa using htk
        have HN := hid (now_is hrd hv)
        have ha := as_ww (.string (strB t.s))
        have HST := hid (fun w1 (b1 : Below wr.heap.size wr w1) => HS.out k (by omega) w1 many' (pre ++ done) r t htk2 (hrd.below b1))
        rw [lst_word _ _ _ _ _ h1] at hXe
        have hone := fun (x : Fo) m2 r2 (hx : stmX (lstF k) deep many' t r = .ok x m2 r2) => stmX_one hx
        generalize hx : stmX (lstF k) deep many' t r = x at *
        clear hx
        have HM := hid hmv
        have HD := hid (And.intro hrd hlo)
        have HE := hid hre
        have HK := hid (And.intro htk2 hkN)
        have HO := hid hone
        have HXE := hid hXe
        have HMA := hid hmany
        clear hrd hmv hlo hXe htk hX hre htk2 hone hkN hmany hv HS
        match x with
        | .bad er r2 =>
          go_wp2_with (first
            | (refine Sh.wp_sv smS (x := smZ) rfl (.tmp 9) (.tmp 25) rfl rfl (by rfl) q3 ?_; intro w4 q4 b4 o4 s4; have B4 := hid (B3.out.trans (b4.mono (Nat.le_refl _))); clear q4 b4 o4 s4)
            | (refine Sh.wp_al smS rfl rfl ?_; intro w3 q3 b3 s3; have B3 := hid b3; clear b3 s3)
            | (go_at_call 57; refine (HST.out w1 B1.out).mono ?_; rintro e w2 ⟨m2, h2, h3, rfl⟩; have M2 := hid ((HM.out.then B1.out (Nat.le_of_lt HG.out.1)).trans m2); have W2 := hid h2; have X2 := hid h3; have hne : ((er : Int) == 0) = false := beq_eq_false_iff_ne.2 (by omega); clear m2 h2 h3)
            | (go_at_call 40; refine HN.out.mono ?_; rintro e w1 ⟨rfl, b1⟩; have B1 := hid b1; clear b1))
          go_ret2
          refine ⟨M2.out.then B4.out (Nat.le_of_lt HG.out.1), ?_⟩
          rw [HXE.out]
          show (∃ m, Went _ _ _ _ _ _ m _) ∧ _
          obtain ⟨m2, hw2⟩ := W2.out
          rw [HE.out]
          exact ⟨⟨m2, (Went.more hw2).below B4.out⟩, X2.out, rfl⟩
        | .ok x mm r2 =>
          obtain ⟨ho1, ho2, ho3⟩ := HO.out x mm r2 rfl
          have HO2 := hid (And.intro ho1 (And.intro ho2 ho3))
          clear ho1 ho2 ho3 HO
          go_wp2_with (first
            | (refine Sh.wp_push2 smS (A := A) (c := c') (l := xs) (base := w.heap.size) (x := y) rfl (.tmp 30) (.tmp 32) rfl rfl ((L4.out.ow).alloc _) rfl (range_new w4 _ _) (by omega) (Nat.le_trans H4.out (by simp)) ?_; intro A6 c6 w6 own6 gr6 li6; have O6 := hid own6; have G6 := hid gr6; have I6 := hid li6; clear own6 gr6 li6)
            | (refine Sh.wp_bs smS (x := y) rfl (.tmp 31) rfl rfl ?_)
            | (refine Sh.wp_ld smS rfl (.tmp 9) rfl rfl Q4.out.1 ?_)
            | (refine Sh.wp_sv smS (x := y) rfl (.tmp 9) (.tmp 25) rfl rfl (by rfl) q3 ?_; intro w4 q4 b4 o4 s4; have Q4 := hid q4; have B4 := hid (B3.out.trans (b4.mono (Nat.le_refl _))); have L4 := hid (L2.out.below (B3.out.trans (b4.mono (Nat.le_refl _)))); have H4 := hid (Nat.le_trans M2.out.size (Nat.le_trans B3.out.size (Nat.le_of_eq s4.out.symm))); clear q4 b4 o4 s4)
            | (refine Sh.wp_al smS rfl rfl ?_; intro w3 q3 b3 s3; have B3 := hid b3; clear b3 s3)
            | (go_at_call 57; refine (HST.out w1 B1.out).mono ?_; rintro e w2 ⟨m2, h2, y, rfl, h3⟩; have L2 := hid ((HD.out.2.below B1.out).mov m2 HG.out.1); have M2 := hid ((HM.out.then B1.out (Nat.le_of_lt HG.out.1)).trans m2); have M12 := hid m2; have W2 := hid h2; have X2 := hid h3; clear m2 h2 h3)
            | (go_at_call 40; refine HN.out.mono ?_; rintro e w1 ⟨rfl, b1⟩; have B1 := hid b1; clear b1))
          have HBA := hid (show Below w.heap.size w4 w6 from ((Below.refl _ _).alloc H4.out _).trans (Sh.grown_below smS ((L4.out.ow).alloc _) (Nat.le_trans H4.out (by simp)) G6.out))
          have LO6 := hid (show Lo w6 w.heap.size A6 (m + 1) c6 (f.app x) (xs ++ [y]) by
            have L1 := HD.out.2.below B1.out
            have ba : Below w4.heap.size w4 (w4.alloc (.cells (smS.enc y).toArray smS.T)) := (Below.refl _ _).alloc (Nat.le_refl _) _
            refine Lo.push (w0 := w1) (L4.out.below ba) ?_ (Nat.le_trans HM.out.size B1.out.size) ?_ O6.out G6.out I6.out
            · cases ho : Value.ownBlock (.slice A m c') with
              | none => exact .inl rfl
              | some j => exact .inr ⟨j, rfl, (own_lt L1.ow j ho).2⟩
            · have t4 := (X2.out.keep (fun j hj hs => B4.out.block j hs)).mono (P' := fun j => w1.heap.size ≤ j ∧ j < w4.heap.size) (fun j hj hs => ⟨hj.1, hs⟩)
              exact (t4.keep (fun j hj hs => ba.block j hs)).mono (fun j hj hs => ⟨hj.1, hs⟩))
          go_roundw
          case rel =>
            obtain ⟨p, hp, R2⟩ := W2.out
            obtain ⟨h1, h2, h3⟩ := HO2.out
            refine ⟨done ++ p, r2, k, mm, A6, m + 1, c6, f.app x, xs ++ [y], rfl, by rw [HE.out, hp, List.append_assoc], by have := HK.out.1; omega, by have := HK.out.2; omega, ?_, by rw [Fo.count_app]; have := HMA.out; omega, LO6.out, ?_, (M2.out.then B4.out (Nat.le_of_lt HG.out.1)).since HBA.out (Nat.le_of_lt HG.out.1)⟩
            · rw [HXE.out]; exact preR_app f x _
            · rw [← List.append_assoc]
              exact (R2.below B4.out).over HBA.out HG.out.1 HG.out.2
          case measure => simp [lenOf]; omega
      · have HS2 := hid HS
        clear HS
        have HN := hid (now_is hrd hv)
        have ha := as_nw (.agg #[.int .i64 t.n, .bool t.time])
        rw [lst_none _ _ _ _ _ (by omega) htk] at hXe
        have HX := hid hXe
        have HM := hid hmv
        have HD := hid (And.intro hrd hlo)
        have HE := hid hre
        clear hrd hmv hlo hXe htk hX hre
        go_wp2_with (first
          | (go_at_call 40; refine HN.out.mono ?_; rintro e w1 ⟨rfl, b1⟩; have B1 := hid b1; clear b1))
        go_ret2
        refine ⟨HM.out.then B1.out (Nat.le_of_lt HG.out.1), ?_⟩
        rw [HX.out]
        show Went _ _ _ _ _ _ many' _ ∧ _
        refine ⟨⟨done, HE.out, HD.out.1.below B1.out⟩, A, m, c', rfl, ?_⟩
        rw [Fo.app_nil]
        exact (HD.out.2.below B1.out).tree
      · have HS2 := hid HS
        clear HS
        have HN := hid (now_is hrd hv)
        have ha := as_sw (.string (strB t.s))
        rw [lst_none _ _ _ _ _ h1 htk] at hXe
        have HX := hid hXe
        have HM := hid hmv
        have HD := hid (And.intro hrd hlo)
        have HE := hid hre
        clear hrd hmv hlo hXe htk hX hre
        go_wp2_with (first
          | (go_at_call 40; refine HN.out.mono ?_; rintro e w1 ⟨rfl, b1⟩; have B1 := hid b1; clear b1))
        go_ret2
        refine ⟨HM.out.then B1.out (Nat.le_of_lt HG.out.1), ?_⟩
        rw [HX.out]
        show Went _ _ _ _ _ _ many' _ ∧ _
        refine ⟨⟨done, HE.out, HD.out.1.below B1.out⟩, A, m, c', rfl, ?_⟩
        rw [Fo.app_nil]
        exact (HD.out.2.below B1.out).tree
theorem list_ok (n : Nat) : ListOk n := by
  induction n using Nat.strongRecOn with
  | ind n ih => exact list_step n ih
end Go.Proofs.YtinjhnflnfpoeaaGreatDoor
