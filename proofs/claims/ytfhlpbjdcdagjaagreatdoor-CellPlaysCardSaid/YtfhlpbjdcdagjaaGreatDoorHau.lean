/- Programs and instructions among the arguments: opened, and shut. -/
import Derived.Test.YtfhlpbjdcdagjaaGreatDoorHan
import Derived.Lib.SmallJoins
import Derived.Deep.SlicePairs
import Derived.ProofKit
import Derived.OpenShut
import Derived.Test.YtfhlpbjdcdagjaaGreatDoorRows
import Derived.Test.YtfhlpbjdcdagjaaGreatDoorHap
import Derived.Lib.LaidTab
import Derived.Stop.LaidErr
import Derived.Shelf.Vars
import Derived.Test.YtfhlpbjdcdagjaaGreatDoorHaa
import Derived.Test.YtfhlpbjdcdagjaaGreatDoorHar
import Derived.Deep.Slices
namespace Go.Proofs.YtfhlpbjdcdagjaaGreatDoor
open Go.RowKit Go.Joins Go.ChangeShapes Go.WideShapes
set_option linter.unusedVariables false
set_option maxRecDepth 100000

theorem under_ins : Tryz.prog.underlying 88 = some (.struct #[{ name := "Op", type := 3, offset := 0, embedded := false, tag := "", pkgPath := "", byteOffset := 0 }, { name := "A", type := 3, offset := 1, embedded := false, tag := "", pkgPath := "", byteOffset := 8 }]) := by kernel_rfl

theorem cells_ins : Tryz.prog.cellsOf 88 = 2 := by kernel_rfl

def numOfI : Value → Int
  | .int _ n => n
  | _ => 0

section
variable {H : Type} {enc : TypeId × Value → H} {w : World} {base : Nat} {spare : Nat → Bool} {held : Bool}

theorem open_ins {fuel : Nat} {a : Option Addr} {len cap : Nat} {x : DataW H × List MemPlace} (h : DataW.trod enc Tryz.prog w base spare held fuel 39 [.slice a len cap] = some x) :
    ∃ l, SnIn w (.slice a len cap) l := by
  rcases Go.Deep.open_slice_pairs Tryz.underlying39 under_ins cells_ins rfl rfl (by kernel_rfl) (by kernel_rfl) h with ⟨hcs, _⟩ | ⟨p, len', cap', m, n, V0, V1, D0, D1, P0, P1, hcs, _, hl, hm, hmm, _, hx⟩
  · simp at hcs
    obtain ⟨rfl, rfl, rfl⟩ := hcs
    exact ⟨[], ⟨⟨⟨_, _, rfl, Nat.le_refl _, fun h => absurd h (by simp)⟩, fun j hj => absurd hj (by simp), by simp⟩, fun n c e => (by injection e with _ e1 e2; exact ⟨e1.symm, e2.symm⟩)⟩⟩
  · simp at hcs
    obtain ⟨rfl, rfl, rfl⟩ := hcs
    have hlm : len ≤ m := by rw [hmm]; split <;> omega
    have each : ∀ i, i < len → ∃ n0 n1, V0 i = .int .i64 n0 ∧ V1 i = .int .i64 n1 ∧ I64 n0 ∧ I64 n1 := by
      intro i hi
      obtain ⟨_, _, t0, t1⟩ := hx i (by omega)
      obtain ⟨n0, e0, _, w0⟩ := DataW.trod_int Tryz.underlying3 t0
      obtain ⟨n1, e1, _, w1⟩ := DataW.trod_int Tryz.underlying3 t1
      exact ⟨n0, n1, by simpa using e0, by simpa using e1, i64_of w0, i64_of w1⟩
    obtain ⟨b, off, spot⟩ := p
    have hget : ∀ j, j < len → (((List.range len).map fun i => (numOfI (V0 i), numOfI (V1 i))).getD j (0, 0)) = (numOfI (V0 j), numOfI (V1 j)) := by
      intro j hj
      rw [List.getD_eq_getElem?_getD, List.getElem?_map, List.getElem?_range hj]
      rfl
    refine ⟨(List.range len).map fun i => (numOfI (V0 i), numOfI (V1 i)), ⟨⟨?_, ?_, by simp; omega⟩, fun n c e => (by injection e with e1; cases e1)⟩⟩
    · refine ⟨some ⟨b, off, spot⟩, cap, by simp, by simpa using hl, fun hp => ?_⟩
      have hp' : 0 < len := by simpa using hp
      have h0 := (hx 0 (by omega)).1
      have hspot : spot = none := by simpa [Addr.add] using World.cell?_spot h0
      subst hspot
      refine ⟨b, off, rfl, ?_, fun j hj => ?_⟩
      · exact World.block_lt_of_cell? w ⟨b, off, none⟩ (by simpa [Addr.add] using h0)
      · have hj' : j < len := by simpa using hj
        obtain ⟨c0, c1, _, _⟩ := hx j (by omega)
        obtain ⟨n0, n1, e0, e1, _, _⟩ := each j hj'
        rw [addr_add] at c0 c1
        rw [hget j hj', e0, e1]
        rw [e0] at c0
        rw [e1] at c1
        exact ⟨c0, by rw [Nat.add_assoc]; exact c1⟩
    · intro j hj
      have hj' : j < len := by simpa using hj
      obtain ⟨n0, n1, e0, e1, i0, i1⟩ := each j hj'
      rw [hget j hj', e0, e1]
      exact ⟨i0, i1⟩

theorem open_in1 {r : Reach} {b0 : Nat} {v : Value} {d : DataW H} {p : List MemPlace} (hv : Value.okWide Tryz.prog w r b0 88 v) (h : DataW.Trod enc Tryz.prog w base spare held 88 v d p) :
    ∃ m n, v = .agg #[.int .i64 m, .int .i64 n] ∧ d = .agg [.lit (.int .i64 m), .lit (.int .i64 n)] ∧ p = [] ∧ (Lit.int .i64 m).wf = true ∧ (Lit.int .i64 n).wf = true := by
  obtain ⟨v0, v1, y0, y1, k, rfl, rfl, rfl, h0, h1⟩ := open_agg2 under_ins (by kernel_rfl) cells_ins hv h
  obtain ⟨m, hm, rfl, wm⟩ := DataW.trod_int Tryz.underlying3 h0
  obtain ⟨n, hn, rfl, wn⟩ := DataW.trod_int Tryz.underlying3 h1
  obtain rfl : v0 = .int .i64 m := by simpa using hm
  obtain rfl : v1 = .int .i64 n := by simpa using hn
  exact ⟨m, n, rfl, rfl, rfl, wm, wn⟩

theorem shut_in1 {m n : Int} (hm : (Lit.int .i64 m).wf = true) (hn : (Lit.int .i64 n).wf = true) : DataW.Trod enc Tryz.prog w base spare held 88 (.agg #[.int .i64 m, .int .i64 n]) (.agg [.lit (.int .i64 m), .lit (.int .i64 n)]) [] :=
  shut_agg2 (y0 := (.lit (.int .i64 m), [])) (y1 := (.lit (.int .i64 n), [])) under_ins (by kernel_rfl) cells_ins ⟨1, trod_int_mk 0 Tryz.underlying3 hm⟩ ⟨1, trod_int_mk 0 Tryz.underlying3 hn⟩

end

end Go.Proofs.YtfhlpbjdcdagjaaGreatDoor

namespace Go.Proofs.YtfhlpbjdcdagjaaGreatDoor
open Go.RowKit Go.Joins Go.ChangeShapes Go.WideShapes
set_option linter.unusedVariables false
set_option maxRecDepth 100000

/-- An array of strings that reads as these texts holds them, cell for cell. -/
theorem cells_of_strs {H : Type} {enc : TypeId × Value → H} {P : Program} {w : World} {base : Nat} {sp : Nat → Bool} {held : Bool} {fuel : Nat} {t e : TypeId} {n : Nat} {cs : List Value} {zs : List (List UInt8)} {p : List MemPlace}
    (ht : P.underlying t = some (.array n e)) (he : P.underlying e = some .string) (hce : P.cellsOf e = 1) (hct : P.cellsOf t = n)
    (h : DataW.trod enc P w base sp held fuel t cs = some (.agg (zs.map fun z => .lit (.string z)), p)) : cs = zs.map fun z => Value.string ⟨z.toArray⟩ := by
  cases fuel with
  | zero => simp [DataW.trod] at h
  | succ fuel =>
    simp only [DataW.trod, ht, hce, hct, Nat.mul_one] at h
    split at h
    · rename_i hl
      obtain ⟨xs, hm, hx⟩ := Option.map_eq_some_iff.1 h
      have hxs : xs.map (·.1) = zs.map fun z => (DataW.lit (.string z) : DataW H) := by
        have := congrArg Prod.fst hx
        simpa using this
      have hxl : xs.length = n := by simpa using Lib.mapM_length hm
      have hzl : zs.length = n := by
        have := congrArg List.length hxs
        simp at this
        omega
      apply List.ext_getElem?
      intro i
      by_cases hi : i < n
      · obtain ⟨b, hb, hf⟩ := Lib.mapM_at hm i i (by simp [hi])
        obtain ⟨s, hc, rfl, _⟩ := DataW.trod_string he hf
        have h1 : cs[i]? = some (.string s) := by
          have := congrArg (·[0]?) hc
          simpa [List.getElem?_take, List.getElem?_drop] using this
        have h2 : (xs.map (·.1))[i]? = some (DataW.lit (.string s.data.toList) : DataW H) := by simp [hb]
        rw [hxs] at h2
        simp only [List.getElem?_map, Option.map_eq_some_iff, DataW.lit.injEq, Lit.string.injEq] at h2
        obtain ⟨z', hz', e2⟩ := h2
        rw [h1, List.getElem?_map, hz', Option.map_some, e2, mk_data]
      · rw [List.getElem?_eq_none (by omega), List.getElem?_eq_none (by simp; omega)]
    · cases h

theorem gPowType4 : (Tryz.prog.globals[4]?).map (·.type) = some 217 := by kernel_rfl

theorem gNamesType : (Tryz.prog.globals[0]?).map (·.type) = some 117 := by kernel_rfl

theorem namesData : (Rows.laid_forebay_code_names : DataW Unit) = .agg (opNames.map fun z => .lit (.string z)) := by kernel_rfl

theorem star4 : "*" ++ "errors.errorString" = "*errors.errorString" := by decide

theorem rowErr4 (u : TypeId) (h : Tryz.prog.typeName? 3 u = some "*errors.errorString") : u = 193 :=
  typeName_ptr_named (nm := "errors.errorString") (by rw [star4]; kernel_rfl) (by kernel_rfl) (by decide) u (by rw [star4]; exact h)

theorem names_of {W : World} {r : List (String × DataW Unit)} (h : laidMet Tryz.prog (("forebay/code.names", Rows.laid_forebay_code_names) :: r) W) : NamesIs W := by
  rw [namesData] at h
  obtain ⟨ps, ⟨g', t', cs, fuel, p, q, hg', ht', hvar, hd, _, _⟩, _⟩ := h
  obtain rfl := Option.some.inj (gNames.symm.trans hg')
  obtain rfl := Option.some.inj (gNamesType.symm.trans ht')
  unfold NamesIs
  rw [hvar]
  have e := cells_of_strs Tryz.underlying117 Tryz.underlying9 (by kernel_rfl) (by kernel_rfl) hd
  congr 1
  rw [← Array.toArray_toList (xs := cs), e]
  unfold nameCells
  rfl

/-- What the rows of stages 4 and 6 list. -/
abbrev laidList4 : List (String × DataW Unit) := [("math/bits.deBruijn32tab", Rows.laid_math_bits_deBruijn32tab), ("math/bits.deBruijn64tab", Rows.laid_math_bits_deBruijn64tab), ("internal/strconv.uint64pow10", Rows.laid_internal_strconv_uint64pow10), ("strconv.ErrRange", Rows.laid_strconv_ErrRange), ("strconv.ErrSyntax", Rows.laid_strconv_ErrSyntax), ("forebay/code.names", Rows.laid_forebay_code_names)]

theorem envOf4 {W : World} (h : laidMetH Tryz.prog laidList4 W) (hsh : W.ShapedOpen Tryz.prog) : Env4 W := by
  have hL : laidMet Tryz.prog laidList4 W := h
  refine ⟨⟨Lib.tabIs_of_head (rest := _) gPow gPowType4 Tryz.underlying217 Tryz.underlying163 (by kernel_rfl) (by kernel_rfl) (laidMet.tail (laidMet.tail hL)), ?_, ?_⟩, names_of (laidMet.tail (laidMet.tail (laidMet.tail (laidMet.tail (laidMet.tail hL))))), ?_⟩
  · obtain ⟨a, s, hv, _⟩ := laid_sentinel (laidMet.tail (laidMet.tail (laidMet.tail (laidMet.tail hL)))) gSyn (by kernel_rfl) Tryz.underlying103 rowErr4 Tryz.underlying193 Tryz.underlying195 rfl rfl Tryz.underlying9 (by kernel_rfl) (by kernel_rfl)
    exact ⟨_, _, hv⟩
  · obtain ⟨a, s, hv, _⟩ := laid_sentinel (laidMet.tail (laidMet.tail (laidMet.tail hL))) gRan (by kernel_rfl) Tryz.underlying103 rowErr4 Tryz.underlying193 Tryz.underlying195 rfl rfl Tryz.underlying9 (by kernel_rfl) (by kernel_rfl)
    exact ⟨_, _, hv⟩
  · exact cell_of_shapedOpen_int (P := Tryz.prog) (g := 1) (t := 3) (zero := #[.int .i64 0]) hsh (of_decide_eq_true (by kernel_rfl)) (by kernel_rfl) rfl (by kernel_rfl) (by kernel_rfl) Tryz.underlying3

def fills (cs : Array Value) : Obj → Obj
  | .cells _ t frozen => .cells cs t frozen
  | o => o

noncomputable def low : Nat := (World.holding Tryz.prog default ⟨#[], #[], []⟩).heap.size

/-- A world for the witness. -/
noncomputable def laidWorld4 (os : Os) : World :=
  { World.holding Tryz.prog os ⟨#[.cells #[.string ⟨#[118, 97, 108, 117, 101, 32, 111, 117, 116, 32, 111, 102, 32, 114, 97, 110, 103, 101]⟩] 195, .cells #[.string ⟨#[105, 110, 118, 97, 108, 105, 100, 32, 115, 121, 110, 116, 97, 120]⟩] 195], #[], []⟩ with heap := (((((((World.holding Tryz.prog os ⟨#[.cells #[.string ⟨#[118, 97, 108, 117, 101, 32, 111, 117, 116, 32, 111, 102, 32, 114, 97, 110, 103, 101]⟩] 195, .cells #[.string ⟨#[105, 110, 118, 97, 108, 105, 100, 32, 115, 121, 110, 116, 97, 120]⟩] 195], #[], []⟩).heap.modify 4 (fills #[.int .u64 1, .int .u64 10, .int .u64 100, .int .u64 1000, .int .u64 10000, .int .u64 100000, .int .u64 1000000, .int .u64 10000000, .int .u64 100000000, .int .u64 1000000000, .int .u64 10000000000, .int .u64 100000000000, .int .u64 1000000000000, .int .u64 10000000000000, .int .u64 100000000000000, .int .u64 1000000000000000, .int .u64 10000000000000000, .int .u64 100000000000000000, .int .u64 1000000000000000000, .int .u64 10000000000000000000])).modify 5 (fills #[.int .u8 0, .int .u8 1, .int .u8 28, .int .u8 2, .int .u8 29, .int .u8 14, .int .u8 24, .int .u8 3, .int .u8 30, .int .u8 22, .int .u8 20, .int .u8 15, .int .u8 25, .int .u8 17, .int .u8 4, .int .u8 8, .int .u8 31, .int .u8 27, .int .u8 13, .int .u8 23, .int .u8 21, .int .u8 19, .int .u8 16, .int .u8 7, .int .u8 26, .int .u8 12, .int .u8 18, .int .u8 6, .int .u8 11, .int .u8 5, .int .u8 10, .int .u8 9])).modify 6 (fills #[.int .u8 0, .int .u8 1, .int .u8 56, .int .u8 2, .int .u8 57, .int .u8 49, .int .u8 28, .int .u8 3, .int .u8 61, .int .u8 58, .int .u8 42, .int .u8 50, .int .u8 38, .int .u8 29, .int .u8 17, .int .u8 4, .int .u8 62, .int .u8 47, .int .u8 59, .int .u8 36, .int .u8 45, .int .u8 43, .int .u8 51, .int .u8 22, .int .u8 53, .int .u8 39, .int .u8 33, .int .u8 30, .int .u8 24, .int .u8 18, .int .u8 12, .int .u8 5, .int .u8 63, .int .u8 55, .int .u8 48, .int .u8 27, .int .u8 60, .int .u8 41, .int .u8 37, .int .u8 16, .int .u8 46, .int .u8 35, .int .u8 44, .int .u8 21, .int .u8 52, .int .u8 32, .int .u8 23, .int .u8 11, .int .u8 54, .int .u8 26, .int .u8 40, .int .u8 15, .int .u8 34, .int .u8 20, .int .u8 31, .int .u8 10, .int .u8 25, .int .u8 14, .int .u8 19, .int .u8 9, .int .u8 13, .int .u8 8, .int .u8 7, .int .u8 6])).modify 3 (fills #[.iface 193 (.pointer (some ⟨low, 0, none⟩))])).modify 2 (fills #[.iface 193 (.pointer (some ⟨low + 1, 0, none⟩))])).modify 0 (fills #[.string ⟨#[72, 65, 76, 84]⟩, .string ⟨#[80, 85, 83, 72]⟩, .string ⟨#[80, 85, 83, 72, 73]⟩, .string ⟨#[73, 78]⟩, .string ⟨#[76, 79, 65, 68]⟩, .string ⟨#[83, 84, 79, 82, 69]⟩, .string ⟨#[65, 68, 68]⟩, .string ⟨#[83, 85, 66]⟩, .string ⟨#[77, 85, 76]⟩, .string ⟨#[67, 79, 78, 74]⟩, .string ⟨#[84, 85, 82, 78]⟩, .string ⟨#[68, 85, 80]⟩, .string ⟨#[83, 87, 65, 80]⟩, .string ⟨#[68, 82, 79, 80]⟩, .string ⟨#[69, 77, 73, 84]⟩, .string ⟨#[74, 90]⟩, .string ⟨#[74, 77, 80]⟩, .string ⟨#[76, 84]⟩])) }

end Go.Proofs.YtfhlpbjdcdagjaaGreatDoor

namespace Go.Proofs.YtfhlpbjdcdagjaaGreatDoor
open Go.RowKit Go.Joins Go.ChangeShapes Go.WideShapes
set_option linter.unusedVariables false
set_option maxRecDepth 100000

theorem under_val : Tryz.prog.underlying 31 = some (.struct #[{ name := "Re", type := 3, offset := 0, embedded := false, tag := "", pkgPath := "", byteOffset := 0 }, { name := "Im", type := 3, offset := 1, embedded := false, tag := "", pkgPath := "", byteOffset := 8 }]) := by kernel_rfl
theorem cells_val : Tryz.prog.cellsOf 31 = 2 := by kernel_rfl

section
variable {H : Type} {enc : TypeId × Value → H} {w : World} {base : Nat} {spare : Nat → Bool} {held : Bool}
theorem open_val {r : Reach} {b0 : Nat} {v : Value} {d : DataW H} {p : List MemPlace} (hv : Value.okWide Tryz.prog w r b0 31 v) (h : DataW.Trod enc Tryz.prog w base spare held 31 v d p) :
    ∃ m n, v = .agg #[.int .i64 m, .int .i64 n] ∧ d = .agg [.lit (.int .i64 m), .lit (.int .i64 n)] ∧ p = [] ∧ (Lit.int .i64 m).wf = true ∧ (Lit.int .i64 n).wf = true := by
  obtain ⟨v0, v1, y0, y1, k, rfl, rfl, rfl, h0, h1⟩ := open_agg2 under_val (by kernel_rfl) cells_val hv h
  obtain ⟨m, hm, rfl, wm⟩ := DataW.trod_int Tryz.underlying3 h0
  obtain ⟨n, hn, rfl, wn⟩ := DataW.trod_int Tryz.underlying3 h1
  obtain rfl : v0 = .int .i64 m := by simpa using hm
  obtain rfl : v1 = .int .i64 n := by simpa using hn
  exact ⟨m, n, rfl, rfl, rfl, wm, wn⟩
theorem shut_val {m n : Int} (hm : (Lit.int .i64 m).wf = true) (hn : (Lit.int .i64 n).wf = true) : DataW.Trod enc Tryz.prog w base spare held 31 (.agg #[.int .i64 m, .int .i64 n]) (.agg [.lit (.int .i64 m), .lit (.int .i64 n)]) [] :=
  shut_agg2 (y0 := (.lit (.int .i64 m), [])) (y1 := (.lit (.int .i64 n), [])) under_val (by kernel_rfl) cells_val ⟨1, trod_int_mk 0 Tryz.underlying3 hm⟩ ⟨1, trod_int_mk 0 Tryz.underlying3 hn⟩
def numOf : Value → Int
  | .int _ n => n
  | _ => 0

theorem open_vals {fuel : Nat} {a : Option Addr} {len cap : Nat} {x : DataW H × List MemPlace} (h : DataW.trod enc Tryz.prog w base spare held fuel 77 [.slice a len cap] = some x) :
    ∃ l, SvIn w (.slice a len cap) l := by
  rcases Go.Deep.open_slice_pairs Tryz.underlying77 under_val cells_val rfl rfl (by kernel_rfl) (by kernel_rfl) h with ⟨hcs, _⟩ | ⟨p, len', cap', m, n, V0, V1, D0, D1, P0, P1, hcs, _, hl, hm, hmm, _, hx⟩
  · simp at hcs
    obtain ⟨rfl, rfl, rfl⟩ := hcs
    exact ⟨[], ⟨⟨_, _, rfl, Nat.le_refl _, fun h => absurd h (by simp)⟩, fun j hj => absurd hj (by simp), by simp⟩⟩
  · simp at hcs
    obtain ⟨rfl, rfl, rfl⟩ := hcs
    have hlm : len ≤ m := by rw [hmm]; split <;> omega
    have each : ∀ i, i < len → ∃ n0 n1, V0 i = .int .i64 n0 ∧ V1 i = .int .i64 n1 ∧ I64 n0 ∧ I64 n1 := by
      intro i hi
      obtain ⟨_, _, t0, t1⟩ := hx i (by omega)
      obtain ⟨n0, e0, _, w0⟩ := DataW.trod_int Tryz.underlying3 t0
      obtain ⟨n1, e1, _, w1⟩ := DataW.trod_int Tryz.underlying3 t1
      exact ⟨n0, n1, by simpa using e0, by simpa using e1, i64_of w0, i64_of w1⟩
    obtain ⟨b, off, spot⟩ := p
    have hget : ∀ j, j < len → (((List.range len).map fun i => (numOf (V0 i), numOf (V1 i))).getD j (0, 0)) = (numOf (V0 j), numOf (V1 j)) := by
      intro j hj
      rw [List.getD_eq_getElem?_getD, List.getElem?_map, List.getElem?_range hj]
      rfl
    refine ⟨(List.range len).map fun i => (numOf (V0 i), numOf (V1 i)), ⟨?_, ?_, by simp; omega⟩⟩
    · refine ⟨some ⟨b, off, spot⟩, cap, by simp, by simpa using hl, fun hp => ?_⟩
      have hp' : 0 < len := by simpa using hp
      have h0 := (hx 0 (by omega)).1
      have hspot : spot = none := by simpa [Addr.add] using World.cell?_spot h0
      subst hspot
      refine ⟨b, off, rfl, ?_, fun j hj => ?_⟩
      · exact World.block_lt_of_cell? w ⟨b, off, none⟩ (by simpa [Addr.add] using h0)
      · have hj' : j < len := by simpa using hj
        obtain ⟨c0, c1, _, _⟩ := hx j (by omega)
        obtain ⟨n0, n1, e0, e1, _, _⟩ := each j hj'
        rw [addr_add] at c0 c1
        rw [hget j hj', e0, e1]
        rw [e0] at c0
        rw [e1] at c1
        exact ⟨c0, by rw [Nat.add_assoc]; exact c1⟩
    · intro j hj
      have hj' : j < len := by simpa using hj
      obtain ⟨n0, n1, e0, e1, i0, i1⟩ := each j hj'
      rw [hget j hj', e0, e1]
      exact ⟨i0, i1⟩

theorem open_arr2 {r : Reach} {b0 : Nat} {v : Value} {d : DataW H} {p : List MemPlace} (hv : Value.okWide Tryz.prog w r b0 32 v) (h : DataW.Trod enc Tryz.prog w base spare held 32 v d p) :
    ∃ a b c e, v = .agg #[.int .i64 a, .int .i64 b, .int .i64 c, .int .i64 e] ∧ (I64 a ∧ I64 b) ∧ (I64 c ∧ I64 e) := by
  have hct : Tryz.prog.cellsOf 32 = 4 := by kernel_rfl
  have hu := Tryz.underlying32
  simp only [Value.okWide, hu] at hv
  obtain ⟨cs, rfl, hsz, _⟩ := hv
  obtain ⟨x0, x1, x2, x3, rfl⟩ := array4 (hsz.trans hct)
  obtain ⟨fuel, hf⟩ := h
  cases fuel with
  | zero => simp [DataW.trod] at hf
  | succ fuel =>
    simp only [DataW.trod, hu, hct, cells_val] at hf
    split at hf
    · obtain ⟨xs, hm, _⟩ := Option.map_eq_some_iff.1 hf
      obtain ⟨y0, _, h0⟩ := Lib.mapM_at hm 0 0 (by simp)
      obtain ⟨y1, _, h1⟩ := Lib.mapM_at hm 1 1 (by simp)
      have each : ∀ (u v : Value) (y : DataW H × List MemPlace), DataW.trod enc Tryz.prog w base spare held fuel 31 [u, v] = some y → ∃ m n, u = .int .i64 m ∧ v = .int .i64 n ∧ I64 m ∧ I64 n := by
        intro u v y hy
        obtain ⟨z0, z1, n, _, _, k0, k1⟩ := trod_struct2 under_val hy
        have q : Tryz.prog.cellsOf 3 = 1 := by kernel_rfl
        simp only [q] at k0 k1
        obtain ⟨m, e0, _, w0⟩ := DataW.trod_int Tryz.underlying3 k0
        obtain ⟨n, e1, _, w1⟩ := DataW.trod_int Tryz.underlying3 k1
        exact ⟨m, n, by simpa using e0, by simpa using e1, i64_of w0, i64_of w1⟩
      obtain ⟨a, b, e0, e1, i0, i1⟩ := each x0 x1 y0 (by simpa [Value.cells] using h0)
      obtain ⟨c, e, e2, e3, i2, i3⟩ := each x2 x3 y1 (by simpa [Value.cells] using h1)
      exact ⟨a, b, c, e, by rw [e0, e1, e2, e3], ⟨i0, i1⟩, ⟨i2, i3⟩⟩
    · cases hf

end

end Go.Proofs.YtfhlpbjdcdagjaaGreatDoor

namespace Go.Proofs.YtfhlpbjdcdagjaaGreatDoor
open Go.RowKit Go.Joins Go.ChangeShapes Go.WideShapes
set_option linter.unusedVariables false
set_option maxRecDepth 100000

theorem under_ent : Tryz.prog.underlying 37 = some (.struct #[{ name := "Node", type := 3, offset := 0, embedded := false, tag := "", pkgPath := "", byteOffset := 0 }, { name := "Key", type := 3, offset := 1, embedded := false, tag := "", pkgPath := "", byteOffset := 8 }, { name := "Cells", type := 32, offset := 2, embedded := false, tag := "", pkgPath := "", byteOffset := 16 }]) := by kernel_rfl

theorem under_rec : Tryz.prog.underlying 41 = some (.struct #[{ name := "Key", type := 3, offset := 0, embedded := false, tag := "", pkgPath := "", byteOffset := 0 }, { name := "Val", type := 31, offset := 1, embedded := false, tag := "", pkgPath := "", byteOffset := 8 }]) := by kernel_rfl

theorem cells_ent : Tryz.prog.cellsOf 37 = 6 := by kernel_rfl

theorem cells_rec : Tryz.prog.cellsOf 41 = 3 := by kernel_rfl

theorem cells_arr : Tryz.prog.cellsOf 32 = 4 := by kernel_rfl

theorem cells_int : Tryz.prog.cellsOf 3 = 1 := by kernel_rfl

section
variable {H : Type} {enc : TypeId × Value → H} {w : World} {base : Nat} {spare : Nat → Bool} {held : Bool}

theorem int_trod {n : Nat} {u : Value} {y : DataW H × List MemPlace} (h : DataW.trod enc Tryz.prog w base spare held n 3 [u] = some y) : ∃ a, u = .int .i64 a ∧ I64 a := by
  obtain ⟨a, e, _, wa⟩ := DataW.trod_int Tryz.underlying3 h
  exact ⟨a, by simpa using e, i64_of wa⟩

theorem val_trod {n : Nat} {u v : Value} {y : DataW H × List MemPlace} (h : DataW.trod enc Tryz.prog w base spare held n 31 [u, v] = some y) : ∃ a b, u = .int .i64 a ∧ v = .int .i64 b ∧ I64 a ∧ I64 b := by
  obtain ⟨z0, z1, m, _, _, k0, k1⟩ := trod_struct2 under_val h
  simp only [cells_int] at k0 k1
  obtain ⟨a, e0, i0⟩ := int_trod k0
  obtain ⟨b, e1, i1⟩ := int_trod k1
  exact ⟨a, b, e0, e1, i0, i1⟩

theorem arr_trod {n : Nat} {x0 x1 x2 x3 : Value} {y : DataW H × List MemPlace} (h : DataW.trod enc Tryz.prog w base spare held n 32 [x0, x1, x2, x3] = some y) : ∃ c : C4, [x0, x1, x2, x3] = [.int .i64 c.1.1, .int .i64 c.1.2, .int .i64 c.2.1, .int .i64 c.2.2] ∧ WfC c := by
  cases n with
  | zero => simp [DataW.trod] at h
  | succ n =>
    simp only [DataW.trod, Tryz.underlying32, cells_arr, cells_val] at h
    split at h
    · obtain ⟨xs, hm, _⟩ := Option.map_eq_some_iff.1 h
      obtain ⟨y0, _, h0⟩ := Lib.mapM_at hm 0 0 (by simp)
      obtain ⟨y1, _, h1⟩ := Lib.mapM_at hm 1 1 (by simp)
      obtain ⟨a, b, e0, e1, i0, i1⟩ := val_trod (u := x0) (v := x1) (y := y0) (by simpa using h0)
      obtain ⟨c, e, e2, e3, i2, i3⟩ := val_trod (u := x2) (v := x3) (y := y1) (by simpa using h1)
      exact ⟨((a, b), (c, e)), by rw [e0, e1, e2, e3], ⟨i0, i1⟩, ⟨i2, i3⟩⟩
    · cases h

theorem ent_trod {n : Nat} {cs : List Value} {y : DataW H × List MemPlace} (h : DataW.trod enc Tryz.prog w base spare held n 37 cs = some y) : ∃ x : Ent, cs = encE x ∧ entI x := by
  obtain ⟨xs, m, _, _, hl, hxl, hf⟩ := DataW.trod_struct under_ent h
  rw [cells_ent] at hl
  match cs, hl, xs, hxl with
  | [v0, v1, v2, v3, v4, v5], _, [y0, y1, y2], _ =>
    have g0 := hf 0 _ rfl
    have g1 := hf 1 _ rfl
    have g2 := hf 2 _ rfl
    obtain ⟨a, e0, i0⟩ := int_trod (u := v0) (y := y0) (by simpa [cells_int] using g0)
    obtain ⟨b, e1, i1⟩ := int_trod (u := v1) (y := y1) (by simpa [cells_int] using g1)
    obtain ⟨c, e2, i2⟩ := arr_trod (x0 := v2) (x1 := v3) (x2 := v4) (x3 := v5) (y := y2) (by simpa [cells_arr] using g2)
    refine ⟨((a, b), c), ?_, ⟨i0, i1⟩, i2⟩
    rw [e0, e1, e2]
    rfl

theorem rec_trod {n : Nat} {cs : List Value} {y : DataW H × List MemPlace} (h : DataW.trod enc Tryz.prog w base spare held n 41 cs = some y) : ∃ x : Rec3, cs = encR x ∧ I64 x.1 ∧ I64 x.2.1 ∧ I64 x.2.2 := by
  obtain ⟨xs, m, _, _, hl, hxl, hf⟩ := DataW.trod_struct under_rec h
  rw [cells_rec] at hl
  match cs, hl, xs, hxl with
  | [v0, v1, v2], _, [y0, y1], _ =>
    have g0 := hf 0 _ rfl
    have g1 := hf 1 _ rfl
    obtain ⟨a, e0, i0⟩ := int_trod (u := v0) (y := y0) (by simpa [cells_int] using g0)
    obtain ⟨b, c, e1, e2, i1, i2⟩ := val_trod (u := v1) (v := v2) (y := y1) (by simpa [cells_val] using g1)
    refine ⟨(a, (b, c)), ?_, i0, i1, i2⟩
    rw [e0, e1, e2]
    rfl

theorem spot_none {p : Addr} {v : Value} (h : w.cell? ((p.add 0).add 0) = some v) : p.spot = none := by
  have : w.cell? p = some v := by simpa [Addr.add] using h
  exact World.cell?_spot this

/-- The cells of the i-th of some elements of k cells. -/
theorem elem_cells {b off k : Nat} {e : TypeId} {cs : List Value} (hk : Tryz.prog.cellsOf e = k) {i : Nat} (h1 : w.cells? base ((⟨b, off, none⟩ : Addr).add (i * Tryz.prog.cellsOf e)) (Tryz.prog.cellsOf e) = some cs) : ∀ j, j < k → w.cell? ⟨b, off + i * k + j, none⟩ = cs[j]? := by
  rw [hk] at h1
  obtain ⟨_, hlen, hcell⟩ := World.cells?_some h1
  intro j hj
  have := hcell j hj
  rwa [addr_add, addr_add] at this

theorem open_ents {fuel : Nat} {a : Option Addr} {len cap : Nat} {x : DataW H × List MemPlace} (h : DataW.trod enc Tryz.prog w base spare held fuel 22 [.slice a len cap] = some x) :
    ∃ l : List Ent, SlE w w.heap.size (.slice a len cap) l ∧ (∀ j, j < l.length → entI (l.getD j e0)) := by
  rcases Go.Deep.open_slice Tryz.underlying22 h with ⟨hcs, _⟩ | ⟨p, len', cap', m, n, D, Pl, hcs, _, hl, hm, hmm, _, hx⟩
  · simp at hcs
    obtain ⟨rfl, rfl, rfl⟩ := hcs
    exact ⟨[], ⟨_, _, rfl, Nat.le_refl _, fun h => absurd h (by simp)⟩, fun j hj => absurd hj (by simp)⟩
  · simp at hcs
    obtain ⟨rfl, rfl, rfl⟩ := hcs
    have hlm : len ≤ m := by rw [hmm]; split <;> omega
    by_cases h0 : len = 0
    · subst h0
      exact ⟨[], ⟨_, _, rfl, Nat.zero_le _, fun h => absurd h (by simp)⟩, fun j hj => absurd hj (by simp)⟩
    · have hs : p.spot = none := by
        obtain ⟨cs', h1, h2⟩ := hx 0 (by omega)
        rw [cells_ent] at h1
        obtain ⟨_, hlen, hcell⟩ := World.cells?_some h1
        obtain ⟨y, rfl, _⟩ := ent_trod h2
        exact spot_none (hcell 0 (by omega))
      obtain ⟨b, off, spot⟩ := p
      simp only at hs
      subst hs
      have each : ∀ i, i < len → ∃ y : Ent, EntC w b (off + i * 6) y ∧ entI y := by
        intro i hi
        obtain ⟨cs', h1, h2⟩ := hx i (by omega)
        have c := elem_cells cells_ent h1
        obtain ⟨y, rfl, hy⟩ := ent_trod h2
        exact ⟨y, ⟨c 0 (by omega), c 1 (by omega), c 2 (by omega), c 3 (by omega), c 4 (by omega), c 5 (by omega)⟩, hy⟩
      obtain ⟨f, hf⟩ := Go.Deep.choose_lt each
      have hget : ∀ j, j < len → ((List.range len).map f).getD j e0 = f j := by
        intro j hj
        rw [List.getD_eq_getElem?_getD, List.getElem?_map, List.getElem?_range hj]
        rfl
      refine ⟨(List.range len).map f, ⟨some ⟨b, off, none⟩, cap, by simp, by simpa using hl, fun hp => ?_⟩, fun j hj => ?_⟩
      · refine ⟨b, off, rfl, World.block_lt_of_cell? w _ (hf 0 (by omega)).1.c0, fun j hj => ?_⟩
        have hj' : j < len := by simpa using hj
        rw [hget j hj']
        exact (hf j hj').1
      · have hj' : j < len := by simpa using hj
        rw [hget j hj']
        exact (hf j hj').2

theorem open_islice {fuel : Nat} {a : Option Addr} {len cap : Nat} {x : DataW H × List MemPlace} (h : DataW.trod enc Tryz.prog w base (fun _ => true) held fuel 42 [.slice a len cap] = some x) : ∃ zs, SlIn w .i64 (.slice a len cap) zs := by
  rcases open_ints Tryz.underlying42 Tryz.underlying3 (by kernel_rfl) h with ⟨hcs, _⟩ | ⟨x, l, c, zs, hcs, _, hl, hm, hz, _, hcell, hwz⟩
  · simp at hcs
    obtain ⟨rfl, rfl, rfl⟩ := hcs
    exact ⟨[], SlIn.none_ _ _⟩
  · simp at hcs
    obtain ⟨rfl, rfl, rfl⟩ := hcs
    exact ⟨zs.take _, SlIn.of_row hl hm (by simpa using hz) hcell hwz⟩

/-- Two records, as an array. -/
theorem open_recs2 {r : Reach} {b0 : Nat} {v : Value} {d : DataW H} {p : List MemPlace} (hv : Value.okWide Tryz.prog w r b0 65 v) (h : DataW.Trod enc Tryz.prog w base spare held 65 v d p) :
    ∃ k x y k' x' y', v = .agg #[.int .i64 k, .int .i64 x, .int .i64 y, .int .i64 k', .int .i64 x', .int .i64 y'] ∧ (I64 k ∧ I64 x ∧ I64 y) ∧ (I64 k' ∧ I64 x' ∧ I64 y') := by
  have hct : Tryz.prog.cellsOf 65 = 6 := by kernel_rfl
  have hu := Tryz.underlying65
  simp only [Value.okWide, hu] at hv
  obtain ⟨cs, rfl, hsz, _⟩ := hv
  obtain ⟨l⟩ := cs
  have hl : l.length = 6 := hsz.trans hct
  match l, hl with
  | [x0, x1, x2, x3, x4, x5], _ =>
    obtain ⟨fuel, hf⟩ := h
    cases fuel with
    | zero => simp [DataW.trod] at hf
    | succ fuel =>
      simp only [DataW.trod, hu, hct, cells_rec] at hf
      split at hf
      · obtain ⟨xs, hm, _⟩ := Option.map_eq_some_iff.1 hf
        obtain ⟨y0, _, h0⟩ := Lib.mapM_at hm 0 0 (by simp)
        obtain ⟨y1, _, h1⟩ := Lib.mapM_at hm 1 1 (by simp)
        obtain ⟨a, e0, i0⟩ := rec_trod (cs := [x0, x1, x2]) (y := y0) (by simpa [Value.cells] using h0)
        obtain ⟨b, e1, i1⟩ := rec_trod (cs := [x3, x4, x5]) (y := y1) (by simpa [Value.cells] using h1)
        simp [encR] at e0 e1
        obtain ⟨rfl, rfl, rfl⟩ := e0
        obtain ⟨rfl, rfl, rfl⟩ := e1
        exact ⟨_, _, _, _, _, _, rfl, i0, i1⟩
      · cases hf

end

end Go.Proofs.YtfhlpbjdcdagjaaGreatDoor
