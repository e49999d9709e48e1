/-
  The contract of the document's own Join (palletref14.Join): as lex.Join (joinR); at most 65536 tokens of at most 65536 bytes each.
-/
import Derived.Test.YtfdieablcffdkaaGreatDoorMU
namespace Go.Proofs.YtfdieablcffdkaaGreatDoor
open Go Go.RowKit Go.Joins

theorem joinT_one (t : Tk) : joinT [t] = txt t := by
  unfold joinT; simp [Lib.join_one]
theorem joinT_snoc (ts : List Tk) (k : Nat) (t : Tk) (h : ts[k]? = some t) (hk : 0 < k) : joinT (ts.take (k + 1)) = joinT (ts.take k) ++ [32] ++ txt t := by
  cases ts with
  | nil => simp at h
  | cons u r =>
    obtain ⟨j, rfl⟩ : ∃ j, k = j + 1 := ⟨k - 1, by omega⟩
    have h : r[j]? = some t := by simpa using h
    unfold joinT
    rw [List.take_succ_cons, List.take_succ_cons, List.map_cons, List.map_cons, Lib.join_cons, Lib.join_cons, List.map_take, List.map_take, Lib.joinTail_take_succ [32] (r.map txt) j (txt t) (by rw [List.getElem?_map, h]; rfl)]
    simp [List.append_assoc]

theorem join_size (ts : List Tk) (k n : Nat) (hl : ts.length = n) (hn : n ≤ 65536) (hm : ∀ t ∈ ts, t.s.length ≤ 65536) : (bA (joinT (ts.take k))).size ≤ 4296474624 := by
  have h1 := joinT_len (ts.take k) 65536 (fun t ht => hm t (List.mem_of_mem_take ht))
  have h3 : (ts.take k).length ≤ 65536 := by rw [List.length_take]; omega
  rw [bA_size]
  omega

set_option maxHeartbeats 1000000 in
set_option maxRecDepth 100000 in
theorem rjoin_any (A : Option Addr) (n c B : Nat) (ts : List Tk) (w : World) (hr : tkS.Rw w B A n ts) (hB : B ≤ w.heap.size) (hn : n ≤ 65536) (hm : ∀ t ∈ ts, t.s.length ≤ 65536) :
    Calls Tryz.prog 10 #[.slice A n c] w fun e w' => e = .returned (joinR ts) ∧ Below w.heap.size w w' := by
  have HR := hid hr
  have HM := hid hm
  have HLN := hid hr.1
  have HSZ := hid (fun k => join_size ts k n hr.1 hn hm)
  clear hr hm
  go_enter Tryz.func10, Tryz.ntmps10
  go_wp2
  go_loopw [4, 11] (fun v4 v11 wr => ∃ k : Nat, v4 = .string (bA (joinT (ts.take k))) ∧ v11 = .int .i64 (k : Nat) ∧ k ≤ n ∧ allT (ts.take k) = true ∧ Below w.heap.size w wr) (fun _ v11 _ => n - (intOf v11).toNat)
  case atStart => exact ⟨0, rfl, rfl, Nat.zero_le _, rfl, Below.refl _ _⟩
  case round =>
    obtain ⟨k, rfl, rfl, hk, hall, hbel⟩ := hrel
    have HA := hid hall
    have BW := hid hbel
    by_cases hlt : k < n
    · obtain ⟨b, o, rfl, hb, hc⟩ := (HR.out.below (hbel.mono hB)).at_ hlt
      have hg : ts[k]? = some (tkS.nth ts k) := Sh.nth_get tkS (by rw [HLN.out]; exact hlt)
      have HT : Hid (ts.take (k + 1) = ts.take k ++ [tkS.nth ts k]) := hid (by rw [List.take_add_one, hg]; rfl)
      have HMM := hid (List.mem_of_getElem? hg)
      have hlm := HM.out _ HMM.out
      have HG := hid hg
      generalize tkS.nth ts k = t at *
      have r1 : wr.rangeAt b (o + k * 4) (tkS.enc t) := hc
      have HX := hid (fun w => rtext_any t w (by omega))
      have htl := txt_len t
      clear hc hbel hall hg
      cases hx : textF t with
      | none =>
        have HF : Hid (joinR ts = .tuple #[.string ⟨#[]⟩, .int .i64 1]) := hid (by
          have : allT ts = false := List.all_eq_false.2 ⟨t, HMM.out, by simp [hx]⟩
          unfold joinR; rw [if_neg (by rw [this]; decide)])
        have e : textR t = .tuple #[.string ⟨#[]⟩, .int .i64 1] := by unfold textR; rw [hx]
        rw [e] at HX
        clear e hx htl hlm
        go_wp2_with (first
          | (go_at_call 8; refine (HX.out w3).mono ?_; rintro e w4 ⟨rfl, g4⟩; have B4 := hid (BW.out.trans ((B3.out.trans (g4.mono B3.out.size)).mono BW.out.size)); clear g4)
          | (refine Sh.wp_ld tkS rfl (.tmp 6) rfl rfl q3.1 ?_)
          | (refine Sh.wp_sv tkS (x := t) rfl (.tmp 6) (.tmp 15) rfl rfl (by rfl) q2 ?_; intro w3 q3 b3 o3 _; have B3 := hid (b2.trans (b3.mono (Nat.le_refl _))); clear q2 b2 b3 o3)
          | (refine Sh.wp_al tkS rfl rfl ?_; intro w2 q2 b2 s2; clear s2)
          | (refine Sh.wp_ld tkS rfl (.tmp 14) rfl rfl r1 ?_))
        go_ret2
        exact ⟨by rw [HF.out]; rfl, B4.out⟩
      | some l =>
        have e : textR t = .tuple #[.string (bA l), .int .i64 0] := by unfold textR; rw [hx]
        rw [e] at HX
        have hTX : txt t = l := by unfold txt; rw [hx]; rfl
        have HA2 : Hid (allT (ts.take (k + 1)) = true) := hid (by
          rw [HT.out]; unfold allT at *; rw [List.all_append, HA.out]; simp [hx])
        have hls : (bA l).size ≤ 65558 := by rw [bA_size, ← hTX]; omega
        have hjs := HSZ.out k
        have HJ : Hid (0 < k → bA (joinT (ts.take (k + 1))) = bA (joinT (ts.take k)) ++ (⟨#[32]⟩ : ByteArray) ++ bA l) := hid (fun h => by
          rw [joinT_snoc ts k t HG.out h, hTX, bA_app, bA_app]; rfl)
        have HJ0 : Hid (k = 0 → bA (joinT (ts.take (k + 1))) = (⟨#[]⟩ : ByteArray) ++ bA l) := hid (fun h => by
          subst h
          rw [HT.out, List.take_zero, List.nil_append, joinT_one, hTX]
          exact bA_app [] l)
        clear e hx hTX htl hlm
        by_cases hk0 : 0 < k
        · have hk0' : (0 : Int) < k := by omega
          have HJ := hid (HJ.out hk0)
          generalize bA (joinT (ts.take k)) = S at *
          generalize bA l = T at *
          go_wp2_with (first
            | (go_at_call 8; refine (HX.out w3).mono ?_; rintro e w4 ⟨rfl, g4⟩; have B4 := hid (BW.out.trans ((B3.out.trans (g4.mono B3.out.size)).mono BW.out.size)); clear g4)
            | (refine Sh.wp_ld tkS rfl (.tmp 6) rfl rfl q3.1 ?_)
            | (refine Sh.wp_sv tkS (x := t) rfl (.tmp 6) (.tmp 15) rfl rfl (by rfl) q2 ?_; intro w3 q3 b3 o3 _; have B3 := hid (b2.trans (b3.mono (Nat.le_refl _))); clear q2 b2 b3 o3)
            | (refine Sh.wp_al tkS rfl rfl ?_; intro w2 q2 b2 s2; clear s2)
            | (refine Sh.wp_ld tkS rfl (.tmp 14) rfl rfl r1 ?_))
          go_roundw
          case rel => exact ⟨k + 1, by rw [HJ.out], by go_num, by omega, HA2.out, B4.out⟩
          case measure => simp [intOf]; omega
        · have hk0' : ¬ (0 : Int) < k := by omega
          have HJ := hid (HJ0.out (by omega))
          obtain rfl : k = 0 := by omega
          have he : bA (joinT (ts.take 0)) = (⟨#[]⟩ : ByteArray) := rfl
          rw [he] at hjs ⊢
          generalize bA l = T at *
          go_wp2_with (first
            | (go_at_call 8; refine (HX.out w3).mono ?_; rintro e w4 ⟨rfl, g4⟩; have B4 := hid (BW.out.trans ((B3.out.trans (g4.mono B3.out.size)).mono BW.out.size)); clear g4)
            | (refine Sh.wp_ld tkS rfl (.tmp 6) rfl rfl q3.1 ?_)
            | (refine Sh.wp_sv tkS (x := t) rfl (.tmp 6) (.tmp 15) rfl rfl (by rfl) q2 ?_; intro w3 q3 b3 o3 _; have B3 := hid (b2.trans (b3.mono (Nat.le_refl _))); clear q2 b2 b3 o3)
            | (refine Sh.wp_al tkS rfl rfl ?_; intro w2 q2 b2 s2; clear s2)
            | (refine Sh.wp_ld tkS rfl (.tmp 14) rfl rfl r1 ?_))
          go_roundw
          case rel => exact ⟨1, by rw [HJ.out], rfl, by omega, HA2.out, B4.out⟩
          case measure => simp [intOf]; omega
    · obtain rfl : k = n := by omega
      rw [List.take_of_length_le (by rw [HLN.out]; omega)] at hall
      have HF : Hid (joinR ts = .tuple #[.string (bA (joinT ts)), .int .i64 0]) := hid (by unfold joinR; rw [if_pos hall])
      have ht : ts.take k = ts := List.take_of_length_le (by rw [HLN.out]; omega)
      rw [ht]
      clear hall hbel ht
      go_wp2
      go_ret2
      exact ⟨by rw [HF.out]; rfl, BW.out⟩
end Go.Proofs.YtfdieablcffdkaaGreatDoor
