/-
  Texts Fa of this seat, as far as they are used.
-/
import Derived.Test.YtlgedfljmgedfaaGreatJ10
import Derived.Test.YtlgedfljmgedfaaGreatProg
import Derived.WalkKit
import Derived.WalkSpells
import Derived.WalkLawsBesides
import Derived.LoopTactic
import Derived.Below
import Derived.Maps.AppendAt
import Derived.OwnWalk
import Derived.Laws.OwnMore
import Derived.Laws.BytesArg
import Derived.Laws.BitsAllLaws
import Derived.Deep.MidRow
namespace Go.Proofs.YtlgedfljmgedfaaGreat.F8
open Go Go.RowKit

theorem hid {p : Prop} (h : p) : Hid p := h
theorem ret_bool {a b : Bool} (h : a = b) : Ending.returned (.bool a) = .returned (.bool b) := by rw [h]
theorem ret_int {k : IntKind} {a b : Int} (h : a = b) : Ending.returned (.int k a) = .returned (.int k b) := by rw [h]

/-- The cells of bytes; of unsigned and of signed numbers. -/
def bv (l : List Nat) : List Value := l.map fun x : Nat => .int .u8 (x : Int)
def uv (l : List Nat) : List Value := l.map fun x : Nat => .int .u64 (x : Int)
def sv (l : List Int) : List Value := l.map fun x => .int .i64 x
theorem bv_len (l : List Nat) : (bv l).length = l.length := by simp [bv]
theorem uv_len (l : List Nat) : (uv l).length = l.length := by simp [uv]
theorem sv_len (l : List Int) : (sv l).length = l.length := by simp [sv]
theorem bv_app (a b : List Nat) : bv (a ++ b) = bv a ++ bv b := by simp [bv]
theorem bv_one (l : List Nat) : ∀ u ∈ bv l, u.oneCell' = true := by
  intro u hu; obtain ⟨x, _, rfl⟩ := List.mem_map.1 hu; rfl

/-- A slice of n elements of one cell each, at A, holds the cells vs, and lies below block B. -/
def Row (w : World) (B : Nat) (A : Option Addr) (n : Nat) (vs : List Value) : Prop :=
  vs.length = n ∧ (0 < n → ∃ b o, A = some ⟨b, o, none⟩ ∧ b < B ∧ ∀ j u, vs[j]? = some u → w.cell? ⟨b, o + j, none⟩ = some u)
/-- A slice that was made by the call itself: from block 'base' on. -/
def Own (w : World) (base : Nat) (e : TypeId) (A : Option Addr) (n c : Nat) (vs : List Value) : Prop := w.ownsRow base e 1 (.slice A n c) n vs

section
variable {w w' : World} {B B' n : Nat} {A : Option Addr} {vs : List Value}
theorem Row.nil (w : World) (B : Nat) (A : Option Addr) : Row w B A 0 [] := ⟨rfl, fun h => absurd h (by omega)⟩
theorem Row.keep (h : Row w B A n vs) (hk : ∀ p : Addr, p.block < B → w'.cell? p = w.cell? p) : Row w' B A n vs :=
  ⟨h.1, fun hn => by
    obtain ⟨b, o, e, hb, hc⟩ := h.2 hn
    exact ⟨b, o, e, hb, fun j u hu => (hk ⟨b, o + j, none⟩ hb).trans (hc j u hu)⟩⟩
theorem Row.below (h : Row w B A n vs) (hb : Below B w w') : Row w' B A n vs := h.keep fun _ hp => hb.cell hp
theorem Row.more (h : Row w B A n vs) (hB : B ≤ B') : Row w B' A n vs :=
  ⟨h.1, fun hn => by
    obtain ⟨b, o, e, hb, hc⟩ := h.2 hn
    exact ⟨b, o, e, by omega, hc⟩⟩
theorem Row.alloc (h : Row w B A n vs) (hB : B ≤ w.heap.size) (o : Obj) : Row (w.alloc o) B A n vs := h.below ((Below.refl _ _).alloc hB o)
theorem Row.at_ (h : Row w B A n vs) {k : Nat} (hk : k < n) : ∃ b o u, A = some ⟨b, o, none⟩ ∧ b < B ∧ vs[k]? = some u ∧ w.cell? ⟨b, o + k, none⟩ = some u := by
  obtain ⟨b, o, e, hb, hc⟩ := h.2 (by omega)
  have hl : k < vs.length := by rw [h.1]; exact hk
  exact ⟨b, o, vs[k], e, hb, List.getElem?_eq_getElem hl, hc k _ (List.getElem?_eq_getElem hl)⟩
theorem plain_add (b o j : Nat) : (⟨b, o, none⟩ : Addr).add j = ⟨b, o + j, none⟩ := by unfold Addr.add; split <;> simp_all
/-- A piece of it. -/
theorem Row.cut (h : Row w B A n vs) {l r c : Nat} (hl : l ≤ r) (hr : r ≤ n) (hc : n ≤ c) :
    Row w B (if c = l then A else A.map (fun x => x.add l)) (r - l) ((vs.take r).drop l) := by
  refine ⟨by rw [List.length_drop, List.length_take, h.1]; omega, fun hp => ?_⟩
  obtain ⟨b, o, rfl, hb, hcell⟩ := h.2 (by omega)
  rw [if_neg (by omega)]
  refine ⟨b, o + l, by simp [plain_add], hb, fun j u hu => ?_⟩
  rw [Nat.add_assoc]
  refine hcell _ u ?_
  rw [List.getElem?_drop, List.getElem?_take] at hu
  split at hu
  · exact hu
  · cases hu
theorem Own.row {base : Nat} {e : TypeId} {c : Nat} (h : Own w base e A n c vs) : Row w w.heap.size A n vs := by
  refine ⟨by simpa using h.1, fun hn => ?_⟩
  rcases h.2 with ⟨_, h0⟩ | ⟨g, cap, cur, hv, hb, hg, _⟩
  · omega
  · have hA : A = some ⟨g, 0, none⟩ := by injection hv
    subst hA
    refine ⟨g, 0, rfl, (Array.getElem?_eq_some_iff.1 hg).1, fun j u hu => ?_⟩
    have := h.cells (g := g) rfl j u hu
    rwa [plain_add] at this
theorem Own.len {base : Nat} {e : TypeId} {c : Nat} (h : Own w base e A n c vs) : vs.length = n := by simpa using h.1
theorem Own.cap {base : Nat} {e : TypeId} {c : Nat} (h : Own w base e A n c vs) : n ≤ c := by
  rcases h.2 with ⟨hv, h0⟩ | ⟨g, cap, cur, hv, hb, hg, hle, _⟩
  · omega
  · have : c = cap := by injection hv
    omega
theorem Own.nil (w : World) (base : Nat) (e : TypeId) : Own w base e none 0 0 [] := World.ownsRow_nil w base e 1
theorem Own.below {base : Nat} {e : TypeId} {c : Nat} (h : Own w base e A n c vs) (hb : Below w.heap.size w w') : Own w' base e A n c vs := by
  refine ⟨h.1, ?_⟩
  rcases h.2 with h0 | ⟨g, cap, cur, hv, hg, hh, r⟩
  · exact .inl h0
  · exact .inr ⟨g, cap, cur, hv, hg, (hb.block g (Array.getElem?_eq_some_iff.1 hh).1).trans hh, r⟩
theorem Own.base_le {base base' : Nat} {e : TypeId} {c : Nat} (h : Own w base e A n c vs) (hb : base' ≤ base) : Own w base' e A n c vs := by
  refine ⟨h.1, ?_⟩
  rcases h.2 with h0 | ⟨g, cap, cur, hv, hg, hh, r⟩
  · exact .inl h0
  · exact .inr ⟨g, cap, cur, hv, by omega, hh, r⟩
theorem Own.alloc {base : Nat} {e : TypeId} {c : Nat} (h : Own w base e A n c vs) (o : Obj) : Own (w.alloc o) base e A n c vs := World.ownsRow.alloc h o
/-- A row of a new block that was laid whole. -/
theorem Row.laid (w : World) (t : TypeId) (cs : List Value) : Row (w.alloc (.cells cs.toArray t)) (w.heap.size + 1) (some ⟨w.heap.size, 0, none⟩) cs.length cs := by
  refine ⟨rfl, fun _ => ⟨w.heap.size, 0, rfl, by omega, fun j u hu => ?_⟩⟩
  rw [cell_of_row (w.alloc (.cells cs.toArray t)) w.heap.size (0 + j) cs.toArray t (0, 0) (heap_alloc_new w _)]
  simpa using hu
end

section
variable {P : Program} (w : World)
/-- append onto a slice of the call's own: it owns both, and below 'base' nothing has turned. -/
theorem run_app (base : Nat) (t ty e : TypeId) (z : Value) (bytes : Nat) (ht : P.underlying t = some (.slice e)) (hi : (P.info? e).map (fun i => (i.zero, i.size, i.bytes)) = some (some z, 1, bytes)) (hz : z.cells.size = 1)
    (A : Option Addr) (n c : Nat) (vs : List Value) (hown : Own w base e A n c vs) (B : Nat) (A2 : Option Addr) (m c2 : Nat) (news : List Value) (hr : Row w B A2 m news) (h1 : ∀ u ∈ news, u.oneCell' = true)
    (hb : (n + m) * bytes ≤ 140737488355328) (hp : 0 < bytes) (hbase : base ≤ w.heap.size) :
    ∃ A' c' w', (Builtin.append_ #[t, t] ty #[.slice A n c, .slice A2 m c2]).run P w = .ok (.slice A' (n + m) c') w' ∧ Own w' base e A' (n + m) c' (vs ++ news) ∧ Below base w w' := by
  obtain ⟨i, hi0, hi1, hi2, hi3⟩ := info_parts hi
  have hfin : ∀ v' w', w'.ownsRow base e 1 v' (n + m) (vs ++ news) → w.grownBy w' (Value.ownBlock (.slice A n c)) → ∃ A' c', v' = .slice A' (n + m) c' ∧ Own w' base e A' (n + m) c' (vs ++ news) ∧ Below base w w' := by
    intro v' w' h2 h3
    have hbel : Below base w w' := (Below.refl _ _).grown h3 hbase (fun k hk => (World.ownsRow.lt hown k hk).1)
    rcases h2.2 with ⟨rfl, h0⟩ | ⟨g, cap, cur, rfl, r⟩
    · rw [h0] at h2 ⊢; exact ⟨none, 0, rfl, h2, hbel⟩
    · exact ⟨_, _, rfl, h2, hbel⟩
  have hle : n + m ≤ maxLen := by
    have : n + m ≤ (n + m) * bytes := Nat.le_mul_of_pos_right _ hp
    unfold maxLen; omega
  by_cases h0 : 0 < m
  · obtain ⟨b, o, rfl, _, hc⟩ := hr.2 h0
    obtain ⟨v', w', hrun, h2, h3, _, _⟩ := run_append_own_at (P := P) w base t ty e i z 1 bytes ht hi0 hi1 hi2 hi3 hz (by omega) (.slice A n c) n vs hown ⟨b, o, none⟩ m c2 news (by simpa using hr.1) (fun j u hu => by rw [plain_add]; exact hc j u hu) h1 hle hb hbase
    obtain ⟨A', c', rfl, r⟩ := hfin v' w' h2 h3
    exact ⟨A', c', w', hrun, r⟩
  · obtain rfl : m = 0 := by omega
    obtain rfl : news = [] := List.eq_nil_of_length_eq_zero hr.1
    rcases A2 with _ | ⟨b, o, s⟩
    · refine ⟨A, c, w, ?_, by simpa [Own] using hown, Below.refl _ _⟩
      rcases hown.2 with ⟨hv, rfl⟩ | ⟨g, cap, cur, hv, _, _, hnc, _⟩
      · injection hv with h1 h2 h3; subst h1; subst h3
        simp [Builtin.append_, run_underlying ht, sizeOf, typeInfo, hi0, Builtin.lenOf, Builtin.firstCells]
      · injection hv with h1 h2 h3; subst h1; subst h3
        simp [Builtin.append_, run_underlying ht, sizeOf, typeInfo, hi0, Builtin.lenOf, Builtin.firstCells, hnc, storeCells]
    · obtain ⟨v', w', hrun, h2, h3, _, _⟩ := run_append_own_at (P := P) w base t ty e i z 1 bytes ht hi0 hi1 hi2 hi3 hz (by omega) (.slice A n c) n vs hown ⟨b, o, s⟩ 0 c2 [] rfl (fun j u hu => by simp at hu) h1 hle hb hbase
      obtain ⟨A', c', rfl, r⟩ := hfin v' w' h2 h3
      exact ⟨A', c', w', hrun, r⟩

theorem wp_app {o : Oper} {a : Act} {K : Act → World → Prop} {Q : Exit → Act → World → Prop} (s x : Operand) (t : TypeId)
    (ho : o.op = .call { callee := .builtin .append, args := #[s, x], argTypes := #[t, t] })
    (base : Nat) (e : TypeId) (z : Value) (bytes : Nat) (ht : P.underlying t = some (.slice e)) (hi : (P.info? e).map (fun i => (i.zero, i.size, i.bytes)) = some (some z, 1, bytes)) (hz : z.cells.size = 1)
    (A : Option Addr) (n c : Nat) (vs : List Value) (hs : a.eval s = .slice A n c) (hown : Own w base e A n c vs) (B : Nat) (A2 : Option Addr) (m c2 : Nat) (news : List Value) (hx : a.eval x = .slice A2 m c2) (hr : Row w B A2 m news)
    (h1 : ∀ u ∈ news, u.oneCell' = true) (hb : (n + m) * bytes ≤ 140737488355328) (hp : 0 < bytes) (hbase : base ≤ w.heap.size)
    (h : ∀ A' c' w', Own w' base e A' (n + m) c' (vs ++ news) → Below base w w' → K (a.put o.dst (.slice A' (n + m) c')) w') : o.wp P a w K Q := by
  obtain ⟨A', c', w', hrun, h2, h3⟩ := run_app (P := P) w base t o.type e z bytes ht hi hz A n c vs hown B A2 m c2 news hr h1 hb hp hbase
  unfold Oper.wp execOp
  simp only [ho, resolve, invoke, builtin, Sem.run_bind, Sem.run_pure, Result.andThen_ok, List.map_toArray, List.map_cons, List.map_nil, hs, hx, hrun]
  exact h A' c' w' h2 h3
theorem wpList_app {ops : Array Oper} {rest : List Oper} {o : Oper} {a : Act} {Q : Exit → Act → World → Prop} (hgd : o.guard = none) (s x : Operand) (t : TypeId)
    (ho : o.op = .call { callee := .builtin .append, args := #[s, x], argTypes := #[t, t] })
    (base : Nat) (e : TypeId) (z : Value) (bytes : Nat) (ht : P.underlying t = some (.slice e)) (hi : (P.info? e).map (fun i => (i.zero, i.size, i.bytes)) = some (some z, 1, bytes)) (hz : z.cells.size = 1)
    (A : Option Addr) (n c : Nat) (vs : List Value) (hs : a.eval s = .slice A n c) (hown : Own w base e A n c vs) (B : Nat) (A2 : Option Addr) (m c2 : Nat) (news : List Value) (hx : a.eval x = .slice A2 m c2) (hr : Row w B A2 m news)
    (h1 : ∀ u ∈ news, u.oneCell' = true) (hb : (n + m) * bytes ≤ 140737488355328) (hp : 0 < bytes) (hbase : base ≤ w.heap.size)
    (h : ∀ A' c' w', Own w' base e A' (n + m) c' (vs ++ news) → Below base w w' → wpList P ops Q rest (a.put o.dst (.slice A' (n + m) c')) w') : wpList P ops Q (o :: rest) a w :=
  wpList_plain hgd fun _ hK => wp_app w s x t ho base e z bytes ht hi hz A n c vs hs hown B A2 m c2 news hx hr h1 hb hp hbase fun A' c' w' h2 h3 => hK _ _ (h A' c' w' h2 h3)
end

/-- string(b) of a row of bytes. -/
def str (l : List Nat) : ByteArray := ⟨(l.map UInt8.ofNat).toArray⟩
theorem run_str {P : Program} (w : World) (src e : TypeId) (hs : P.underlying src = some (.slice e)) (he : P.underlying e = some (.int .u8)) (B : Nat) (A : Option Addr) (n c : Nat) (l : List Nat) (hr : Row w B A n (bv l))
    (dst : TypeId) (hd : P.underlying dst = some .string) : (convert src dst (.slice A n c)).run P w = .ok (.string (str l)) w := by
  have hl : l.length = n := by rw [← bv_len, hr.1]
  by_cases h0 : 0 < n
  · obtain ⟨b, o, rfl, _, hc⟩ := hr.2 h0
    have := run_convert_bytes_arg (P := P) w src e hs he b o n c (l.map fun x : Nat => (x : Int)) (by simpa using hl) (fun i hi => hc i _ (by simp [bv, List.getElem?_eq_getElem (show i < l.length by omega), List.getD])) dst hd
    rw [this]
    simp [strOfNums, str]
  · obtain rfl : n = 0 := by omega
    obtain rfl : l = [] := List.eq_nil_of_length_eq_zero hl
    rcases A with _ | ⟨b, o, s⟩
    · rw [run_convert_bytes_nil w src e hs he 0 c dst hd]; rfl
    · rw [run_convert_bytes_string w src dst e _ 0 c hs he hd]
      rw [run_bytesToString w _ 0 c [] (by simp [loadCells, loadCellsFrom])]
      rfl
theorem str_list (l : List Nat) : (str l).toList = l.map UInt8.ofNat := by rw [ByteArray.toList_eq]; rfl
theorem ofNat_inj {a b : Nat} (ha : a < 256) (hb : b < 256) (h : UInt8.ofNat a = UInt8.ofNat b) : a = b := by
  have := congrArg UInt8.toNat h
  simpa [UInt8.toNat_ofNat', Nat.mod_eq_of_lt ha, Nat.mod_eq_of_lt hb] using this
theorem str_eq {a b : List Nat} (ha : Oct a) (hb : Oct b) : ((str a).toList == (str b).toList) = decide (a = b) := by
  rw [str_list, str_list, Bool.eq_iff_iff, beq_iff_eq, decide_eq_true_eq]
  constructor
  · intro h
    induction a generalizing b with
    | nil => cases b with | nil => rfl | cons y b => simp at h
    | cons x a ih =>
      cases b with
      | nil => simp at h
      | cons y b =>
        simp only [List.map_cons, List.cons.injEq] at h
        rw [ofNat_inj (ha x (List.mem_cons_self ..)) (hb y (List.mem_cons_self ..)) h.1, ih (fun z hz => ha z (List.mem_cons_of_mem _ hz)) (fun z hz => hb z (List.mem_cons_of_mem _ hz)) h.2]
  · rintro rfl; rfl
/-- A row of a new block that was laid whole, its number as it is spelled. -/
theorem Row.laid' (w : World) (t : TypeId) (cs : List Value) (g : Nat) (hg : g = w.heap.size) : Row (w.alloc (.cells cs.toArray t)) (g + 1) (some ⟨g, 0, none⟩) cs.length cs := by
  subst hg; exact Row.laid w t cs

theorem Row.take {w : World} {B n : Nat} {A : Option Addr} {vs : List Value} (h : Row w B A n vs) {k : Nat} (hk : k ≤ n) : Row w B A k (vs.take k) := by
  refine ⟨by rw [List.length_take, h.1]; omega, fun hp => ?_⟩
  obtain ⟨b, o, rfl, hb, hc⟩ := h.2 (by omega)
  refine ⟨b, o, rfl, hb, fun j u hu => hc j u ?_⟩
  rw [List.getElem?_take] at hu
  split at hu
  · exact hu
  · cases hu
theorem bv_take (l : List Nat) (k : Nat) : (bv l).take k = bv (l.take k) := by simp [bv, List.map_take]
theorem bv_drop (l : List Nat) (k : Nat) : (bv l).drop k = bv (l.drop k) := by simp [bv, List.map_drop]

theorem info5 : (Tryz.prog.info? 5).map (fun i => (i.zero, i.size, i.bytes)) = some (some (.int .u8 0), 1, 1) := by kernel_rfl
end Go.Proofs.YtlgedfljmgedfaaGreat.F8
namespace Go.Proofs.YtlgedfljmgedfaaGreat.F8
open Go Go.RowKit

theorem xor32 {a b c : Nat} {x y : Int} (hx : x = a) (hy : y = b) (ha : a < 4294967296) (hb : b < 4294967296) (hc : c = a ^^^ b) : bits .xor .u32 x y = (c : Int) := by
  subst hx hy hc; exact u32_xor_nat a b ha hb

/-- A function of a number of 32 bits that only reckons. -/
def Reckons (f : Nat) (g : Nat → Nat) (M : Nat) : Prop := ∀ (r : Nat) (w : World), r < M → Calls Tryz.prog f #[.int .u32 (r : Int)] w fun e w' => e = .returned (.int .u32 (g r : Int)) ∧ w = w'

theorem put24_any : Reckons 183 (fun i => i * 1048576) 16 := by
  intro i w hi
  go_enter Tryz.func183, Tryz.ntmps183
  go_wp2
  go_ret
  exact ⟨ret_int (by omega), rfl⟩
theorem step24_any : Reckons 184 st24 16777216 := by
  intro r w hr
  have H1 : Hid (16777216 ≤ 2 * r → st24 r = 2 * r ^^^ 25578747) := hid (fun h => by unfold st24; rw [if_pos h])
  have H2 : Hid (¬ 16777216 ≤ 2 * r → st24 r = 2 * r) := hid (fun h => by unfold st24; rw [if_neg h])
  go_enter Tryz.func184, Tryz.ntmps184
  go_wp2
  · go_ret
    have h : 16777215 < (r : Int) * 2 := by assumption
    exact ⟨ret_int (xor32 (a := 2 * r) (b := 25578747) (by omega) (by omega) (by omega) (by omega) (H1.out (by omega))), rfl⟩
  · go_ret
    have h : (r : Int) * 2 ≤ 16777215 := by assumption
    exact ⟨ret_int (by rw [H2.out (by omega)]; omega), rfl⟩
/-- What a table has. -/
def tab (f p : Nat → Nat) (i : Nat) : Value := .int .u32 ((it f 4 (p i) : Nat) : Int)
def agg16 (v : Nat → Value) : Array Value := #[v 0, v 1, v 2, v 3, v 4, v 5, v 6, v 7, v 8, v 9, v 10, v 11, v 12, v 13, v 14, v 15]
theorem agg16_of (v : Nat → Value) (c : Array Value) (hc : c.size = 16) (h : ∀ j, j < 16 → c[j]? = some (v j)) : c = agg16 v := by
  refine Array.ext (by rw [hc]; rfl) fun i h1 h2 => ?_
  have := h i (by omega)
  rw [Array.getElem?_eq_getElem h1] at this
  rw [Option.some.inj this]
  have hi : i < 16 := by omega
  clear this h1
  rcases i with _ | _ | _ | _ | _ | _ | _ | _ | _ | _ | _ | _ | _ | _ | _ | _ | i <;> first | rfl | omega

def zeros16 : Array Value := agg16 fun _ => .int .u32 0
theorem heap_alloc_new' (w : World) (o : Obj) {g : Nat} (h : g = w.heap.size) : (w.alloc o).heap[g]? = some o := by subst h; exact heap_alloc_new w o
theorem rangeAt_block {w : World} {g : Nat} {t : TypeId} {c : Array Value} (h : w.heap[g]? = some (.cells c t)) : w.rangeAt g 0 c.toList := by
  intro j v hv
  rw [cell_of_row w g (0 + j) c t (0, 0) h]
  simpa using hv
theorem there_block {w : World} {g : Nat} {t : TypeId} {c : Array Value} (h : w.heap[g]? = some (.cells c t)) (n : Nat) (hn : n ≤ c.size) : w.there g 0 n := by
  intro j hj
  rw [cell_of_row w g (0 + j) c t (0, 0) h]
  exact ⟨by rw [Array.getElem?_eq_getElem (by omega)]; rfl, by simp [World.frozen?, h]⟩
theorem Below.setCells {B b : Nat} {a : World} : ∀ (vs : List Value) (o : Nat) {w : World}, Below B a w → B ≤ b → Below B a (w.setCells b o vs)
  | [], _, _, h, _ => h
  | v :: vs, o, _, h, hb => Below.setCells vs (o + 1) (h.setCell (p := ⟨b, o, none⟩) hb v) hb
theorem agg16_one (v : Nat → Value) (h : ∀ j, (v j).oneCell' = true) : (agg16 v).all (·.oneCell') = true := by
  simp [agg16, h]
theorem results_cell_one {fn : Func} {p : Tmp} {ty : TypeId} (h : fn.results = #[.cell p ty]) (tmps : Array Value) (P : Program) (w : World) :
    (results fn tmps).run P w = ((asAddr (tmps.getD p undef)).run P w).andThen fun a w₁ => (loadVar ty a).run P w₁ := by
  simp only [results, h]
  simp [Sem.run_bind, Result.andThen]
theorem size37 : (Tryz.prog.info? 180).map (·.size) = some 16 := by kernel_rfl
def TabRel (w : World) (f p : Nat → Nat) (i : Value) (wr : World) : Prop :=
  ∃ (k : Nat) (c : Array Value), k ≤ 16 ∧ i = .int .i64 (k : Int) ∧ wr = w.alloc (.cells c 180) ∧ c.size = 16 ∧ ∀ j, j < k → c[j]? = some (tab f p j)
def StepRel (f : Nat → Nat) (r0 : Nat) (r i : Value) : Prop := ∃ k : Nat, k ≤ 4 ∧ i = .int .i64 (k : Int) ∧ r = .int .u32 ((it f k r0 : Nat) : Int)
theorem it_M {f : Nat → Nat} {M : Nat} (h : ∀ r, r < M → f r < M) : ∀ n r, r < M → it f n r < M
  | 0, _, hr => hr
  | n + 1, r, hr => it_M h n (f r) (h r hr)
theorem tab_set {f p : Nat → Nat} {k : Nat} {c : Array Value} {v : Value} (hc : c.size = 16) (hk : k < 16) (h : ∀ j, j < k → c[j]? = some (tab f p j)) (hv : v = tab f p k) : (c.setIfInBounds k v).size = 16 ∧ ∀ j, j < k + 1 → (c.setIfInBounds k v)[j]? = some (tab f p j) := by
  refine ⟨by simp [hc], fun j hj => ?_⟩
  rw [Array.getElem?_setIfInBounds]
  split
  · rename_i e; subst e; rw [if_pos (by omega), hv]
  · exact h j (by omega)

set_option maxRecDepth 100000 in
set_option maxHeartbeats 1000000 in
theorem tableOf_24 (w : World) : Calls Tryz.prog 182 #[.func (.func 183) #[] #[], .func (.func 184) #[] #[]] w fun e w' => e = .returned (.agg (agg16 (tab st24 (fun i => i * 1048576)))) ∧ Below w.heap.size w w' := by
  obtain ⟨p, hp⟩ : ∃ p : Nat → Nat, p = (fun i => i * 1048576) := ⟨_, rfl⟩
  have HP : Hid (Reckons 183 p 16) := hid (by rw [hp]; exact put24_any)
  have HPM : Hid (∀ i, i < 16 → p i < 16777216) := hid (by rw [hp]; intro i hi; dsimp only; omega)
  have HIT : Hid (∀ n r, r < 16777216 → it st24 n r < 16777216) := hid (it_M (M := 16777216) st24_lt)
  rw [← hp]
  clear hp
  go_enter Tryz.func182, Tryz.ntmps182
  go_wp2
  obtain ⟨W, hW⟩ : ∃ W, W = w.alloc (Obj.cells zeros16 180) := ⟨_, rfl⟩
  have hsz : W.heap.size = w.heap.size + 1 := by rw [hW]; simp
  have HW := hid hW
  simp only [zeros16, agg16] at hW
  rw [← hW, ← hsz]
  clear hW
  go_loopw [8] (TabRel W st24 p) (fun i _ => 16 - (intOf i).toNat)
  case atStart => exact ⟨0, _, by omega, rfl, rfl, rfl, fun j hj => absurd hj (by omega)⟩
  case round =>
    obtain ⟨k, c, hk, rfl, rfl, hc, hcs⟩ := hrel
    have HCS := hid hcs
    have HC := hid hc
    clear hcs
    by_cases hlt : k < 16
    · go_wp2_with (go_at_call 183; refine (HP.out k _ hlt).mono ?_; rintro e w' ⟨rfl, rfl⟩)
      have hb0 : p k < 16777216 := HPM.out k hlt
      go_loop [7, 15] (StepRel st24 (p k)) (fun _ i => 4 - (intOf i).toNat)
      case atStart => exact ⟨0, by omega, rfl, rfl⟩
      case round =>
        obtain ⟨m, hm, rfl, rfl⟩ := hrel
        obtain ⟨x, hx⟩ : ∃ x, x = it st24 m (p k) := ⟨_, rfl⟩
        have hxM : x < 16777216 := by rw [hx]; exact HIT.out m _ hb0
        have HX := hid hx
        rw [← hx]
        clear hx
        by_cases hm4 : m < 4
        · go_wp2_with (go_at_call 184; refine (step24_any x _ hxM).mono ?_; rintro e w' ⟨rfl, rfl⟩)
          go_round
          case rel => exact ⟨m + 1, by omega, by go_num, by rw [it_last, ← HX.out]⟩
          case measure => simp [intOf]; omega
        · obtain rfl : m = 4 := by omega
          go_wp2_with fail
          obtain ⟨h1, h2⟩ := tab_set (v := .int .u32 (x : Int)) HC.out hlt HCS.out (by rw [HX.out]; rfl)
          refine ⟨⟨_, _, _, ⟨k + 1, _, by omega, rfl, rfl, h1, h2⟩, rfl, rfl, by simp⟩, by simp [intOf]; omega⟩
    · obtain rfl : k = 16 := by omega
      obtain rfl := agg16_of _ c HC.out HCS.out
      have hW := HW.out
      subst hW
      have h1 : Hid ((agg16 (tab st24 p)).all (·.oneCell') = true) := hid (agg16_one _ fun j => rfl)
      have hs : Hid ((agg16 (tab st24 p)).size = 16) := hid rfl
      clear HC HCS HP HPM HIT hc HW
      generalize hcE : agg16 (tab st24 p) = c at *
      have HCE := hid hcE
      clear hcE
      have HR : Hid (((w.alloc (Obj.cells zeros16 180)).alloc (.cells c 180)).rangeAt (w.heap.size + 1) 0 c.toList) := hid (rangeAt_block (heap_alloc_new' _ _ (by simp)))
      have HT : Hid (((w.alloc (Obj.cells zeros16 180)).alloc (.cells c 180)).there w.heap.size 0 c.size) := hid (by
        rw [hs.out]; exact there_block (c := zeros16) (t := 180) (by rw [Below.heap_alloc _ _ _ (by simp)]; exact heap_alloc_new w _) 16 (by decide))
      have HB : Hid (Below w.heap.size w ((w.alloc (Obj.cells zeros16 180)).alloc (.cells c 180))) := hid (((Below.refl _ w).alloc (Nat.le_refl _) _).alloc (by simp) _)
      rw [hsz]
      clear hsz
      generalize (w.alloc (Obj.cells zeros16 180)).alloc (.cells c 180) = W2 at *
      go_wp2_with (first
        | (refine wpList_load_mid rfl 180 (.tmp 5) rfl (w.heap.size + 1) 0 rfl c.toList _ HR.out Tryz.underlying180 rfl (by rw [size37, Array.length_toList, hs.out]) ?_)
        | (refine wpList_store_mid rfl 180 (.tmp 4) (.tmp 25) rfl w.heap.size 0 c rfl rfl HT.out (by rw [size37, hs.out]) h1.out ?_))
      have hld := run_loadVar_mid (P := Tryz.prog) (W2.setCells w.heap.size 0 c.toList) w.heap.size 0 180 c.toList _ (World.rangeAt_setCells_same W2 w.heap.size 0 c.toList (by rw [Array.length_toList]; exact HT.out)) Tryz.underlying180 rfl (by rw [size37, Array.length_toList, hs.out])
      refine bodyPost_ret (v := .agg c) (by rw [results_cell_one Tryz.results182]; exact hld) rfl ⟨by rw [HCE.out], Below.setCells c.toList 0 HB.out (Nat.le_refl _)⟩

set_option maxRecDepth 100000 in
set_option maxHeartbeats 400000 in
theorem table24_any (w : World) : Calls Tryz.prog 171 #[] w fun e w' => e = .returned (.agg (agg16 (tab st24 (fun i => i * 1048576)))) ∧ Below w.heap.size w w' := by
  go_enter Tryz.func171, Tryz.ntmps171
  go_wp2_with fail
  obtain ⟨W, hW⟩ : ∃ W, W = w.alloc (Obj.cells zeros16 180) := ⟨_, rfl⟩
  have hsz : W.heap.size = w.heap.size + 1 := by rw [hW]; simp
  have HB0 : Hid (Below w.heap.size w W) := hid (by rw [hW]; exact (Below.refl _ w).alloc (Nat.le_refl _) _)
  have HT0 : Hid (W.heap[w.heap.size]? = some (.cells zeros16 180)) := hid (by rw [hW]; exact heap_alloc_new w _)
  simp only [zeros16, agg16] at hW
  rw [← hW]
  clear hW
  refine (tableOf_24 W).mono ?_
  rintro e w1 ⟨rfl, bel⟩
  have h1 : Hid ((agg16 (tab st24 (fun i => i * 1048576))).all (·.oneCell') = true) := hid (agg16_one _ fun j => rfl)
  have hs : Hid ((agg16 (tab st24 (fun i => i * 1048576))).size = 16) := hid rfl
  have HB : Hid (Below w.heap.size w w1) := hid (HB0.out.trans (bel.mono (by omega)))
  have HT : Hid (w1.there w.heap.size 0 16) := hid (there_block (c := zeros16) (t := 180) (by rw [bel.block _ (by omega)]; exact HT0.out) 16 (by decide))
  clear bel HB0 HT0
  generalize hcE : agg16 (tab st24 (fun i => i * 1048576)) = c at *
  have HCE := hid hcE
  clear hcE
  go_wp2_with (refine wpList_store_mid rfl 180 (.tmp 0) (.tmp 1) rfl w.heap.size 0 c rfl rfl (by rw [hs.out]; exact HT.out) (by rw [size37, hs.out]) h1.out ?_)
  have hld := run_loadVar_mid (P := Tryz.prog) (w1.setCells w.heap.size 0 c.toList) w.heap.size 0 180 c.toList _ (World.rangeAt_setCells_same w1 w.heap.size 0 c.toList (by rw [Array.length_toList, hs.out]; exact HT.out)) Tryz.underlying180 rfl (by rw [size37, Array.length_toList, hs.out])
  refine bodyPost_ret (v := .agg c) (by rw [results_cell_one Tryz.results171]; exact hld) rfl ⟨by rw [HCE.out], Below.setCells c.toList 0 HB.out (Nat.le_refl _)⟩
end Go.Proofs.YtlgedfljmgedfaaGreat.F8
