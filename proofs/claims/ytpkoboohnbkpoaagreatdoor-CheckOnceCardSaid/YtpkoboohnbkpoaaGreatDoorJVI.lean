/-
  What the rows' condition on the listed tables gives the walks of check's laws: LaidW and LaidC. Two laws' arguments: a list of statements, and it with a number.
-/
import Derived.Test.YtpkoboohnbkpoaaGreatDoorK1
import Derived.Test.YtpkoboohnbkpoaaGreatDoorJZF
import Derived.Deep.Strs
namespace Go.Proofs.YtpkoboohnbkpoaaGreatDoor
open Go Go.RowKit Go.Joins

theorem gPeriod : Tryz.prog.globalNamed "pallet/check.period" = some 0 := by kernel_rfl
theorem gWhen : Tryz.prog.globalNamed "pallet/check.when" = some 1 := by kernel_rfl
theorem gDrift : Tryz.prog.globalNamed "pallet/check.drift" = some 2 := by kernel_rfl
theorem gPeriodT : (Tryz.prog.globals[0]?).map (·.type) = some 116 := by kernel_rfl
theorem gWhenT : (Tryz.prog.globals[1]?).map (·.type) = some 116 := by kernel_rfl
theorem gDriftT : (Tryz.prog.globals[2]?).map (·.type) = some 116 := by kernel_rfl
theorem cNr : Tryz.prog.cellsOf 116 = 3 := by kernel_rfl
theorem cBool : Tryz.prog.cellsOf 4 = 1 := by kernel_rfl

set_option maxRecDepth 1000000 in
theorem number_of_trod {H : Type} {enc : TypeId × Value → H} {W : World} {base : Nat} {sp : Nat → Bool} {held : Bool} {fuel : Nat} {cs : List Value} {x : DataW H × List MemPlace} (h : DataW.trod enc Tryz.prog W base sp held fuel 116 cs = some x)
    (t : Bool) (a b : Int) (hx : x.1 = .agg [.lit (.bool t), .lit (.int .i64 a), .lit (.int .i64 b)]) : cs = [.bool t, .int .i64 a, .int .i64 b] := by
  obtain ⟨y0, y1, y2, n, rfl, hl, h0, h1, h2⟩ := Deep.trod_struct3 Tryz.underlying116 h
  rw [cNr] at hl
  match cs, hl with
  | [v0, v1, v2], _ =>
    simp only [cBool, c2] at h0 h1 h2
    obtain ⟨s, e0, rfl⟩ := DataW.trod_bool Tryz.underlying4 h0
    obtain ⟨k, e1, rfl, _⟩ := DataW.trod_int Tryz.underlying2 h1
    obtain ⟨m, e2, rfl, _⟩ := DataW.trod_int Tryz.underlying2 h2
    simp at e0 e1 e2 hx
    obtain ⟨rfl, rfl, rfl⟩ := hx
    subst e0 e1 e2
    rfl
theorem range_of_var {W : World} {name : String} {g : Nat} {cs : List Value} (hg : Tryz.prog.globalNamed name = some g) (h : W.var? Tryz.prog name = some cs.toArray) : W.rangeAt g 0 cs := by
  unfold World.var? at h
  rw [hg] at h
  simp only [Option.bind_some] at h
  intro j v hv
  unfold World.cell?
  revert h
  cases hh : W.heap[g]? with
  | none => intro h; cases h
  | some o =>
    cases o with
    | cells c t z =>
      intro h
      simp only [Option.some.injEq] at h
      subst h
      simpa using hv
    | _ => intro h; cases h
set_option maxRecDepth 1000000 in
theorem period_of_reads {W : World} (h : Lib.VarReads Tryz.prog W "pallet/check.period" Rows.laid_pallet_check_period) : W.rangeAt 0 0 (encNr nPeriod) := by
  obtain ⟨g', t', cs, fuel, p, hg', ht', hvar, hd⟩ := h
  obtain rfl := Option.some.inj (gPeriod.symm.trans hg')
  obtain rfl := Option.some.inj (gPeriodT.symm.trans ht')
  refine range_of_var gPeriod (hvar.trans (congrArg some (Array.ext' ?_)))
  exact number_of_trod hd true 1 1000000000 rfl
set_option maxRecDepth 1000000 in
theorem when_of_reads {W : World} (h : Lib.VarReads Tryz.prog W "pallet/check.when" Rows.laid_pallet_check_when) : W.rangeAt 1 0 (encNr nWhen) := by
  obtain ⟨g', t', cs, fuel, p, hg', ht', hvar, hd⟩ := h
  obtain rfl := Option.some.inj (gWhen.symm.trans hg')
  obtain rfl := Option.some.inj (gWhenT.symm.trans ht')
  refine range_of_var gWhen (hvar.trans (congrArg some (Array.ext' ?_)))
  exact number_of_trod hd true 0 1125899906842624 rfl
set_option maxRecDepth 1000000 in
theorem drift_of_reads {W : World} (h : Lib.VarReads Tryz.prog W "pallet/check.drift" Rows.laid_pallet_check_drift) : W.rangeAt 2 0 (encNr nDrift) := by
  obtain ⟨g', t', cs, fuel, p, hg', ht', hvar, hd⟩ := h
  obtain rfl := Option.some.inj (gDrift.symm.trans hg')
  obtain rfl := Option.some.inj (gDriftT.symm.trans ht')
  refine range_of_var gDrift (hvar.trans (congrArg some (Array.ext' ?_)))
  exact number_of_trod hd false (-1000000) 1000000 rfl
def laidM : List (String × DataW Unit) := [("math/bits.deBruijn32tab", Rows.laid_math_bits_deBruijn32tab), ("math/bits.deBruijn64tab", Rows.laid_math_bits_deBruijn64tab), ("internal/strconv.uint64pow10", Rows.laid_internal_strconv_uint64pow10), ("unicode/utf8.acceptRanges", Rows.laid_unicode_utf8_acceptRanges), ("strconv.ErrRange", Rows.laid_strconv_ErrRange), ("strconv.ErrSyntax", Rows.laid_strconv_ErrSyntax), ("pallet/pico.units", Rows.laid_pallet_pico_units), ("pallet/lex.first", Rows.laid_pallet_lex_first), ("pallet/check.period", Rows.laid_pallet_check_period), ("pallet/check.when", Rows.laid_pallet_check_when), ("pallet/check.drift", Rows.laid_pallet_check_drift), ("unicode/utf8.first", Rows.laid_unicode_utf8_first)]
set_option maxRecDepth 1000000 in
theorem laidWC {W : World} (h : laidMetH Tryz.prog laidM W) : LaidW W ∧ LaidC W := by
  rw [MakeChecks.laidMetH_plain _ _ _ (by kernel_rfl)] at h
  refine ⟨⟨first_of_reads (Lib.laidMet.reads h (by simp [laidM])), ?_, units_of_reads (Lib.laidMet.reads h (by simp [laidM])), pow_of_laid h.tail.tail⟩, ⟨period_of_reads (Lib.laidMet.reads h (by simp [laidM])), when_of_reads (Lib.laidMet.reads h (by simp [laidM])), drift_of_reads (Lib.laidMet.reads h (by simp [laidM]))⟩⟩
  have e1 : Rows.laid_unicode_utf8_first = Lib.firstData := by kernel_rfl
  have e2 : (Rows.laid_unicode_utf8_acceptRanges : DataW Unit) = Lib.acceptData := by kernel_rfl
  exact utf8Tabs_of_readsT typesU extraU (by rw [← e1]; exact Lib.laidMet.reads h (by simp [laidM])) (by rw [← e2]; exact Lib.laidMet.reads h (by simp [laidM]))
end Go.Proofs.YtpkoboohnbkpoaaGreatDoor
