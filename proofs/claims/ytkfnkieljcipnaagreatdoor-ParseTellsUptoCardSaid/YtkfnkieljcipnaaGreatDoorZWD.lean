/-
  Contract of a printer's line: a statement without its Body, behind what is there; under: the tables hold what the program lays, texts of at most 2^40 bytes.
-/
import Derived.Test.YtkfnkieljcipnaaGreatDoorZWC
import Derived.Test.YtkfnkieljcipnaaGreatDoorZWA
import Derived.Test.YtkfnkieljcipnaaGreatDoorK4
import Derived.StillTailTactics
namespace Go.Proofs.YtkfnkieljcipnaaGreatDoor
open Go Go.RowKit Go.Joins

def LwB (B : Nat) (w : World) : Prop := ∀ w1, Below B w w1 → LaidW w1
section
variable {w w' : World} {B b n c : Nat} {l : List UInt8} {K : Nat → Prop} {A : Option Addr}
theorem LwB.of (h : LaidW w) : LwB w.heap.size w := fun _ hb => h.below hb
theorem LwB.go (h : LwB B w) (hb : Below B w w') : LwB B w' := fun _ h1 => h _ (hb.trans h1)
theorem LwB.now (h : LwB B w) : LaidW w := h w (Below.refl _ _)
theorem RwP.lowB {Q : Program} {α : Type} {σ : Sh Q α} {ys : List α} (h : RwP σ w K A n ys) (hK : ∀ k, K k → k < B) (hb : Below B w w') : RwP σ w' K A n ys := h.keep fun k hk _ => hb.block k (hK k hk)
theorem Tr.lowB {f : Fo} {xs : List Sm} (h : Tr w K f xs) (hK : ∀ k, K k → k < B) (hb : Below B w w') : Tr w' K f xs := h.keep fun k hk _ => hb.block k (hK k hk)
theorem TrS.lowB {f : Fo} (h : TrS w K A n f) (hK : ∀ k, K k → k < B) (hb : Below B w w') : TrS w' K A n f := h.keep fun k hk _ => hb.block k (hK k hk)
theorem PMov.drew (h : PMov B b w w') : PMov B b w w'.drew := ⟨h.bel.drew, h.keep, h.buf⟩
/-- WriteString, of any string. -/
theorem wstr_b (z : ByteArray) (s : List UInt8) (hz : z.data.toList = s) (h : PB w B b l) (hlen : l.length + s.length ≤ 1099511627776) :
    Calls Tryz.prog 71 #[.pointer (some ⟨b, 0, none⟩), .string z] w fun e w' => (∃ k, e = .returned (.tuple #[.int .i64 k, .nilIface])) ∧ PB w' B b (l ++ s) ∧ PMov B b w w' := by
  subst hz
  have e : bA z.data.toList = z := rfl
  have := wstr_any (w := w) z.data.toList h hlen
  rw [e] at this
  exact this.mono fun e w' h => ⟨⟨_, h.1⟩, h.2⟩
/-- The text of a number. -/
theorem num_text (x : Int × Bool) (hL : LaidW w) (hx : -1000000000000000000 < x.1 ∧ x.1 < 1000000000000000000) :
    Calls Tryz.prog 72 #[.agg #[.int .i64 2, .string ⟨#[]⟩, .int .i64 x.1, .bool x.2]] w fun e w' => e = .returned (.tuple #[.string (bA (numX x.1 x.2)), .int .i64 0]) ∧ Below w.heap.size w w' := by
  have h := text_any ⟨2, [], x.1, x.2⟩ w hL (by simp)
  have e : textR ⟨2, [], x.1, x.2⟩ = .tuple #[.string (bA (numX x.1 x.2)), .int .i64 0] := by
    unfold textR textF
    rw [if_pos ⟨rfl, by simpa [smallI] using hx⟩]
  rw [e] at h
  exact h
end
theorem str_app (a b : ByteArray) : (a ++ b).data.toList = a.data.toList ++ b.data.toList := by simp
theorem str_one (c : UInt8) (s : List UInt8) : ((⟨#[c]⟩ : ByteArray) ++ bA s).data.toList = c :: s := by rw [str_app]; rfl
theorem numsL_cons (x : Int × Bool) (ns : List (Int × Bool)) : numsL (x :: ns) = (32 :: numX x.1 x.2) ++ numsL ns := rfl
theorem numsL_drop {ns : List (Int × Bool)} {i : Nat} (h : i < ns.length) : numsL (ns.drop i) = (32 :: numX (nmS.nth ns i).1 (nmS.nth ns i).2) ++ numsL (ns.drop (i + 1)) := by
  rw [List.drop_eq_getElem_cons h, numsL_cons]
  have e : nmS.nth ns i = ns[i] := Sh.nth_of nmS (List.getElem?_eq_getElem h)
  rw [e]

set_option maxHeartbeats 1000000 in
set_option maxRecDepth 100000 in
theorem line_any (x : Sm) (ns : List (Int × Bool)) (w : World) (B b : Nat) (l : List UInt8) (K : Nat → Prop) (hp : PB w B b l) (hL : LwB B w) (hr : RwP nmS w K x.nA x.nn ns) (hK : ∀ k, K k → k < B) (hn : ∀ y ∈ ns, -1000000000000000000 < y.1 ∧ y.1 < 1000000000000000000) (hc : ns.length ≤ 1000000)
    (hlen : l.length + (lineF x.word ns x.block).length ≤ 1099511627776) :
    Calls Tryz.prog 53 #[.pointer (some ⟨b, 0, none⟩), smV x] w fun e w' => e = .returned (.tuple #[]) ∧ PB w' B b (l ++ lineF x.word ns x.block) ∧ PMov B b w w' := by
  obtain ⟨xw, xA, xn, xc, xb, xB, xm, xk⟩ := x
  simp only at hr hlen ⊢
  have HP := hid hp
  have HLW := hid hL
  have HR := hid hr
  have HK := hid hK
  have HN := hid hn
  have hxn : xn ≤ 1000000 := by have := hr.1; omega
  have HLL := hid (show l.length + xw.length + (numsL ns).length + 2 ≤ 1099511627778 from by
    have := hlen; unfold lineF at this; simp only [List.length_append] at this; omega)
  have HLT := hid (show l.length + xw.length + (numsL ns).length + (tailL xb).length ≤ 1099511627776 from by
    have := hlen; unfold lineF at this; simp only [List.length_append] at this; omega)
  clear hp hL hr hK hn hc hlen
  go_enter Tryz.func53, Tryz.ntmps53
  go_upto_region 1 with (first
    | (refine Sh.wp_box smS (x := ⟨xw, xA, xn, xc, xb, xB, xm, xk⟩) rfl (.tmp 1) rfl rfl ?_; intro w1 v1 b1 s1; have P1 := hid (HP.out.below b1); have M1 := hid (PMov.of HP.out.leB HP.out.lt b1); have F1 := hid (free_new HP.out b1 s1.out); have V1 := hid v1; clear v1 b1 s1))
  have c0 : w1.cell? ⟨w.heap.size, 0, none⟩ = some (.string (strB xw)) := V1.out.cell (j := 0) rfl
  clear HP
  go_still_tail 5, (by kernel_rfl)
  have D1 : Below w1.heap.size w1 w1.drew := (Below.refl _ _).drew
  have N1 := PMov.of P1.out.leB P1.out.lt D1
  have P1 := hid (P1.out.below D1)
  have M1 := hid (M1.out.drew)
  have F1 := hid (F1.out.mov N1).1
  have V1 := hid (V1.out.keep D1)
  clear c0 D1 N1
  change wpList _ _ _ _ _ w1.drew
  generalize w1.drew = w2 at *
  have H1 := hid (wstr_b (w := w2) (strB xw) xw rfl P1.out (by have := HLL.out; omega))
  go_wp2_with (go_at_call 71; refine H1.out.mono ?_; rintro e w3 ⟨⟨k3, rfl⟩, p3, m3⟩; have P3 := hid p3; have M3 := hid (M1.out.trans m3); have F3 := hid (F1.out.mov m3).1; have V3 := hid (V1.out.free_mov F1.out m3); have c1 : w3.cell? ⟨w.heap.size, 1, none⟩ = some (.slice xA xn xc) := V3.out.cell (j := 1) rfl; clear p3 m3 H1 P1 M1 F1 V1)
  go_loopw [17] (fun v17 wr => ∃ (i : Nat) (m : List UInt8), v17 = .int .i64 (i : Int) ∧ i ≤ xn ∧ PB wr B b m ∧ m ++ numsL (ns.drop i) = l ++ xw ++ numsL ns ∧ PMov B b w wr ∧ Free wr b w.heap.size ∧ smS.Var wr w.heap.size ⟨xw, xA, xn, xc, xb, xB, xm, xk⟩) (fun v17 _ => xn - (intOf v17).toNat)
  case atStart => exact ⟨0, _, rfl, Nat.zero_le _, P3.out, rfl, M3.out, F3.out, V3.out⟩
  case round =>
    obtain ⟨i, m, rfl, hi, hpb, hm, hmv, hfr, hvr⟩ := hrel
    have P4 := hid hpb
    have M4 := hid hmv
    have F4 := hid hfr
    have V4 := hid hvr
    have HM := hid hm
    by_cases hlt : i < xn
    · have hnl : i < ns.length := by rw [HR.out.1]; exact hlt
      obtain ⟨b2, o2, rfl, hb2, hcell⟩ := (HR.out.lowB HK.out hmv.bel).size.at_ hlt
      have HD := hid (numsL_drop hnl)
      have HIN := hid (HN.out _ (List.mem_of_getElem? (Sh.nth_get nmS hnl)))
      generalize nmS.nth ns i = y at *
      obtain ⟨y1, y2⟩ := y
      simp only at HIN HD
      have HTX := hid (fun wx (hb : Below B w wx) => num_text (w := wx) (y1, y2) (HLW.out wx hb) HIN.out)
      have hml : m.length + (32 :: numX y1 y2).length ≤ 1099511627776 := by
        have e := congrArg List.length hm
        rw [HD.out] at e
        simp only [List.length_append] at e
        have := HLL.out
        omega
      have HML := hid hml
      have hz := bA_size (numX y1 y2)
      have n1 : ¬ (9223372036854775807 : Int) < 1 + ((bA (numX y1 y2)).size : Int) := by rw [hz]; simp only [List.length_cons] at hml; omega
      have r1 : wr.rangeAt b2 (o2 + i * 2) (nmS.enc (y1, y2)) := hcell
      clear hcell hpb hm hmv hfr hvr hb2 hml hz hnl
      have HZ := hid (show (⟨#[32]⟩ ++ bA (numX y1 y2) : ByteArray).data.toList = 32 :: numX y1 y2 from str_one 32 _)
      go_wp2_with (first
        | (go_at_call 71; refine (wstr_b (w := w7) _ (32 :: numX y1 y2) HZ.out P7.out HML.out).mono ?_; rintro e w8 ⟨⟨k8, rfl⟩, p8, m8⟩; have P8 := hid p8; have M8 := hid (M7.out.trans m8); have F8 := hid (F7.out.mov m8).1; have V8 := hid (V7.out.free_mov F7.out m8); clear p8 m8)
        | (go_at_call 72; refine (HTX.out w6 M6.out.bel).mono ?_; rintro e w7 ⟨rfl, b7⟩; have n7 := PMov.of P6.out.leB P6.out.lt b7; have P7 := hid (P6.out.below b7); have M7 := hid (M6.out.trans n7); have F7 := hid (F6.out.mov n7).1; have V7 := hid (V6.out.keep b7); clear b7 n7)
        | (refine Sh.wp_sv nmS (x := (y1, y2)) rfl (.tmp 5) (.tmp 20) rfl rfl (by rfl) q5 ?_; intro w6 q6 b6 o6 s6; have d0 : w6.cell? ⟨wr.heap.size, 0, none⟩ = some (.int .i64 y1) := q6.cell (j := 0) rfl; have d1 : w6.cell? ⟨wr.heap.size, 1, none⟩ = some (.bool y2) := q6.cell (j := 1) rfl; have h6 : Below wr.heap.size wr w6 := B5.out.trans b6; have n6 := PMov.of P4.out.leB P4.out.lt h6; have P6 := hid (P4.out.below h6); have M6 := hid (M4.out.trans n6); have F6 := hid (F4.out.mov n6).1; have V6 := hid (V4.out.keep h6); clear q6 b6 o6 s6 q5 B5 h6 n6)
        | (refine Sh.wp_al nmS rfl rfl ?_; intro w5 q5 b5 s5; have B5 := hid b5; clear b5 s5)
        | (refine Sh.wp_ld nmS rfl (.tmp 19) rfl rfl r1 ?_))
      go_roundw
      case rel => exact ⟨i + 1, _, by go_num, by omega, P8.out, by rw [← HM.out, HD.out]; simp, M8.out, F8.out, V8.out⟩
      case measure => simp [intOf]; omega
    · obtain rfl : i = xn := by omega
      have c2 : wr.cell? ⟨w.heap.size, 2, none⟩ = some (.bool xb) := V4.out.cell (j := 2) rfl
      have HM2 := hid (show m = l ++ xw ++ numsL ns by
        have := hm
        rw [List.drop_eq_nil_of_le (by rw [HR.out.1]; exact Nat.le_refl _)] at this
        simpa [numsL] using this)
      clear hpb hm hmv hfr hvr
      cases xb
      · have HX := hid (show m.length + ([59] : List UInt8).length ≤ 1099511627776 by have := HLT.out; rw [HM2.out]; simp only [List.length_append, tailL] at this ⊢; simpa using this)
        go_wp2_with (go_at_call 71; refine (wstr_b (w := wr) _ [59] rfl P4.out HX.out).mono ?_; rintro e w8 ⟨⟨k8, rfl⟩, p8, m8⟩; have P8 := hid p8; have M8 := hid (M4.out.trans m8); clear p8 m8)
        go_end0
        exact ⟨rfl, by have := P8.out; rw [HM2.out] at this; simpa [lineF, tailL] using this, M8.out⟩
      · have HX := hid (show m.length + ([32, 123] : List UInt8).length ≤ 1099511627776 by have := HLT.out; rw [HM2.out]; simp only [List.length_append, tailL] at this ⊢; simpa using this)
        go_wp2_with (go_at_call 71; refine (wstr_b (w := wr) _ [32, 123] rfl P4.out HX.out).mono ?_; rintro e w8 ⟨⟨k8, rfl⟩, p8, m8⟩; have P8 := hid p8; have M8 := hid (M4.out.trans m8); clear p8 m8)
        go_end0
        exact ⟨rfl, by have := P8.out; rw [HM2.out] at this; simpa [lineF, tailL] using this, M8.out⟩
end Go.Proofs.YtkfnkieljcipnaaGreatDoor
