/-
  What the rows' condition on the listed tables gives the walks: they lie in memory as the program lays them (LaidW).
-/
import Derived.Test.YtinjhnflnfpoeaaGreatDoorRows
import Derived.Test.YtinjhnflnfpoeaaGreatDoorC
import Derived.ProofKit
import Derived.LaidMore
import Derived.OpenShut
import Derived.Stop.Joined
import Derived.Stop.LaidErr
import Derived.Lib.LaidTab
import Derived.Lib.LaidU8T
import Derived.Below
import Derived.ChangeSame
import Derived.ChangeMaps5
namespace Go.Proofs.YtinjhnflnfpoeaaGreatDoor
open Go Go.RowKit Go.Joins

theorem own : ownKnob Tryz.prog.godebug = none := by kernel_rfl
theorem gUnitsT : (Tryz.prog.globals[1]?).map (·.type) = some 118 := by kernel_rfl
theorem gFirstT : (Tryz.prog.globals[0]?).map (·.type) = some 26 := by kernel_rfl
theorem c52 : Tryz.prog.cellsOf 117 = 2 := by kernel_rfl
theorem c59 : Tryz.prog.cellsOf 118 = 10 := by kernel_rfl
theorem cPl : Tryz.prog.cellsOf 26 = 2 := by kernel_rfl
theorem c9 : Tryz.prog.cellsOf 9 = 1 := by kernel_rfl
theorem c2 : Tryz.prog.cellsOf 2 = 1 := by kernel_rfl
theorem c3 : Tryz.prog.cellsOf 3 = 1 := by kernel_rfl

set_option maxRecDepth 100000 in
theorem unit_of_trod {H : Type} {enc : TypeId × Value → H} {W : World} {base : Nat} {sp : Nat → Bool} {held : Bool} {fuel : Nat} {cs : List Value} {x : DataW H × List MemPlace} (h : DataW.trod enc Tryz.prog W base sp held fuel 117 cs = some x)
    (nm : List UInt8) (ps : Int) (hx : x.1 = .agg [.lit (.string nm), .lit (.int .i64 ps)]) : cs = [.string ⟨nm.toArray⟩, .int .i64 ps] := by
  obtain ⟨y0, y1, n, rfl, hl, h0, h1⟩ := ChangeShapes.trod_struct2 Tryz.underlying117 h
  rw [c52] at hl
  match cs, hl with
  | [v0, v1], _ =>
    simp only [c9, c2] at h0 h1
    obtain ⟨s, e0, rfl, _⟩ := DataW.trod_string Tryz.underlying9 h0
    obtain ⟨k, e1, rfl, _⟩ := DataW.trod_int Tryz.underlying2 h1
    simp at e0 e1 hx
    obtain ⟨rfl, rfl⟩ := hx
    subst e0 e1
    rfl
set_option maxRecDepth 1000000 in
theorem place_of_trod {H : Type} {enc : TypeId × Value → H} {W : World} {base : Nat} {sp : Nat → Bool} {held : Bool} {fuel : Nat} {cs : List Value} {x : DataW H × List MemPlace} (h : DataW.trod enc Tryz.prog W base sp held fuel 26 cs = some x)
    (a b : Int) (hx : x.1 = .agg [.lit (.int .i64 a), .lit (.int .i64 b)]) : cs = [.int .i64 a, .int .i64 b] := by
  obtain ⟨y0, y1, n, rfl, hl, h0, h1⟩ := ChangeShapes.trod_struct2 Tryz.underlying26 h
  rw [cPl] at hl
  match cs, hl with
  | [v0, v1], _ =>
    simp only [c3] at h0 h1
    obtain ⟨s, e0, rfl, _⟩ := DataW.trod_int Tryz.underlying3 h0
    obtain ⟨k, e1, rfl, _⟩ := DataW.trod_int Tryz.underlying3 h1
    simp at e0 e1 hx
    obtain ⟨rfl, rfl⟩ := hx
    subst e0 e1
    rfl

set_option maxRecDepth 1000000 in
theorem units_of_trod {W : World} {fuel : Nat} {enc : TypeId × Value → Unit} {base : Nat} {sp : Nat → Bool} {held : Bool} {cs : List Value} {p : List MemPlace} (h : DataW.trod enc Tryz.prog W base sp held fuel 118 cs = some (Rows.laid_pallet_pico_units, p)) : cs = unitCells.toList := by
  obtain ⟨xs, m, rfl, hx, hl, hn, hel⟩ := DataW.trod_array Tryz.underlying118 h
  rw [c59] at hl
  simp only [c52] at hel
  match xs, hn, cs, hl with
  | [x0, x1, x2, x3, x4], _, [v0, v1, v2, v3, v4, v5, v6, v7, v8, v9], _ =>
    simp only [Rows.laid_pallet_pico_units, Prod.mk.injEq, DataW.agg.injEq, List.map_cons, List.map_nil, List.cons.injEq, and_true] at hx
    obtain ⟨⟨hx0, hx1, hx2, hx3, hx4⟩, _⟩ := hx
    have e0 := unit_of_trod (hel 0 (by decide)) _ _ hx0.symm
    have e1 := unit_of_trod (hel 1 (by decide)) _ _ hx1.symm
    have e2 := unit_of_trod (hel 2 (by decide)) _ _ hx2.symm
    have e3 := unit_of_trod (hel 3 (by decide)) _ _ hx3.symm
    have e4 := unit_of_trod (hel 4 (by decide)) _ _ hx4.symm
    simp at e0 e1 e2 e3 e4
    obtain ⟨rfl, rfl⟩ := e0
    obtain ⟨rfl, rfl⟩ := e1
    obtain ⟨rfl, rfl⟩ := e2
    obtain ⟨rfl, rfl⟩ := e3
    obtain ⟨rfl, rfl⟩ := e4
    rfl

set_option maxRecDepth 1000000 in
theorem units_of_reads {W : World} (h : Lib.VarReads Tryz.prog W "pallet/pico.units" Rows.laid_pallet_pico_units) : W.var? Tryz.prog "pallet/pico.units" = some unitCells := by
  obtain ⟨g', t', cs, fuel, p, hg', ht', hvar, hd⟩ := h
  obtain rfl := Option.some.inj (gUnits.symm.trans hg')
  obtain rfl := Option.some.inj (gUnitsT.symm.trans ht')
  rw [hvar]
  exact congrArg some (Array.ext' (units_of_trod hd))
set_option maxRecDepth 1000000 in
theorem first_of_reads {W : World} (h : Lib.VarReads Tryz.prog W "pallet/lex.first" Rows.laid_pallet_lex_first) : W.var? Tryz.prog "pallet/lex.first" = some #[.int .i64 1, .int .i64 1] := by
  obtain ⟨g', t', cs, fuel, p, hg', ht', hvar, hd⟩ := h
  obtain rfl := Option.some.inj (gFirst.symm.trans hg')
  obtain rfl := Option.some.inj (gFirstT.symm.trans ht')
  rw [hvar]
  exact congrArg some (Array.ext' (place_of_trod hd 1 1 rfl))

def renU : Go.Shelf.Ren := ⟨fun n => n, fun | 5 => 5 | 119 => 126 | 138 => 129 | 139 => 130 | n => n, fun | 3 => 2 | 4 => 3 | n => n⟩
theorem typesU : U8Types Tryz.prog renU := ⟨Tryz.underlying5, Tryz.underlying126, Tryz.underlying129, Tryz.underlying130⟩
theorem extraU : U8Extra Tryz.prog renU := ⟨by kernel_rfl, by kernel_rfl, by kernel_rfl, by kernel_rfl, by kernel_rfl, by kernel_rfl, by kernel_rfl⟩

def laidL : List (String × DataW Unit) := [("math/bits.deBruijn32tab", Rows.laid_math_bits_deBruijn32tab), ("math/bits.deBruijn64tab", Rows.laid_math_bits_deBruijn64tab), ("internal/strconv.uint64pow10", Rows.laid_internal_strconv_uint64pow10), ("unicode/utf8.acceptRanges", Rows.laid_unicode_utf8_acceptRanges), ("strconv.ErrRange", Rows.laid_strconv_ErrRange), ("strconv.ErrSyntax", Rows.laid_strconv_ErrSyntax), ("pallet/pico.units", Rows.laid_pallet_pico_units), ("pallet/lex.first", Rows.laid_pallet_lex_first), ("unicode/utf8.first", Rows.laid_unicode_utf8_first)]

theorem pow_of_laid {W : World} {rest : List (String × DataW Unit)} (h : laidMet Tryz.prog (("internal/strconv.uint64pow10", Rows.laid_internal_strconv_uint64pow10) :: rest) W) : Lib.TabIs Tryz.prog W "internal/strconv.uint64pow10" .u64 Lib.pow10Tab :=
  Lib.tabIs_of_head (t := 175) (e := 139) (n := 20) gPow (by kernel_rfl) (by kernel_rfl) (by kernel_rfl) (by kernel_rfl) (by kernel_rfl) (zs := Lib.pow10Tab) h

set_option maxRecDepth 1000000 in
theorem laidW {W : World} (h : laidMetH Tryz.prog laidL W) : LaidW W := by
  rw [MakeChecks.laidMetH_plain _ _ _ (by kernel_rfl)] at h
  refine ⟨first_of_reads (Lib.laidMet.reads h (by simp [laidL])), ?_, units_of_reads (Lib.laidMet.reads h (by simp [laidL])), pow_of_laid h.tail.tail⟩
  have e1 : Rows.laid_unicode_utf8_first = Lib.firstData := by kernel_rfl
  have e2 : (Rows.laid_unicode_utf8_acceptRanges : DataW Unit) = Lib.acceptData := by kernel_rfl
  exact utf8Tabs_of_readsT typesU extraU (by rw [← e1]; exact Lib.laidMet.reads h (by simp [laidL])) (by rw [← e2]; exact Lib.laidMet.reads h (by simp [laidL]))

open Go.ChangeShapes Go.WideShapes
/-- A law whose arguments hold no memory, and that named no variable: nothing that was there has changed, and it answers as it should. -/
theorem post_plain {H : Type} {enc : TypeId × Value → H} {P : Program} {f : Func} {s : ChangeSpec} {apart fresh handsOn again : Bool} {W W' : World} {args : Array Value} {v : Value} {ds gs : List (DataW H)}
    (hW : DataW.Whole enc P f.params.toList s.vars apart W args.toList ds gs []) (hb : Below W.heap.size W W')
    (hR : ∀ b sp hd, DataW.TrodAll enc P W' b sp hd f.resultTypes.toList (v.resultList f.resultTypes.size) (s.fn H (ds ++ gs)).results [])
    (hA : ∀ sp, DataW.TrodAll enc P W' 0 sp true f.params.toList args.toList (s.fn H (ds ++ gs)).args [])
    (hV : ∀ sp, DataW.TrodVars enc P W' sp s.vars (s.fn H (ds ++ gs)).vars [])
    (hok : ∀ (j : Nat) (t : TypeId) (r : Value), f.resultTypes[j]? = some t → (v.resultList f.resultTypes.size)[j]? = some r → Value.okWide P W' .any 0 t r) :
    s.post enc P f apart fresh handsOn again W args v W' := by
  have hframe := hb.frame (· ∈ ([] : List MemPlace))
  refine ⟨ds, gs, [], [], [], [], hW, hR _ _ _, hA _, hV _, World.keptBut_mono (fun p hp => ?_) hframe, fun _ => ⟨hok, _, _, [], ⟨[], [], trodAll_append (hA _) (hR _ _ _), hV _, rfl, ?_, fun _ => List.nodup_nil⟩, ?_⟩⟩
  · cases hp
  · intro b off hp; cases hp
  · intro p hp; cases hp
end Go.Proofs.YtinjhnflnfpoeaaGreatDoor
