/- Values that come in: opened, and shut. -/
import Derived.Test.YtfohdoahddommaaDoorBase
import Derived.Lib.SmallJoins
import Derived.Deep.SlicePairs
import Derived.Lib.LaidTab
import Derived.OpenShut
namespace Go.Proofs.YtfohdoahddommaaDoor
open Go.RowKit Go.Joins Go.ChangeShapes Go.WideShapes
set_option linter.unusedVariables false
set_option maxRecDepth 100000

theorem under_val : Tryd.prog.underlying 24 = some (.struct #[{ name := "Re", type := 3, offset := 0, embedded := false, tag := "", pkgPath := "", byteOffset := 0 }, { name := "Im", type := 3, offset := 1, embedded := false, tag := "", pkgPath := "", byteOffset := 8 }]) := by kernel_rfl
theorem cells_val : Tryd.prog.cellsOf 24 = 2 := by kernel_rfl

section
variable {H : Type} {enc : TypeId × Value → H} {w : World} {base : Nat} {spare : Nat → Bool} {held : Bool}
theorem open_val {r : Reach} {b0 : Nat} {v : Value} {d : DataW H} {p : List MemPlace} (hv : Value.okWide Tryd.prog w r b0 24 v) (h : DataW.Trod enc Tryd.prog w base spare held 24 v d p) :
    ∃ m n, v = .agg #[.int .i64 m, .int .i64 n] ∧ d = .agg [.lit (.int .i64 m), .lit (.int .i64 n)] ∧ p = [] ∧ (Lit.int .i64 m).wf = true ∧ (Lit.int .i64 n).wf = true := by
  obtain ⟨v0, v1, y0, y1, k, rfl, rfl, rfl, h0, h1⟩ := open_agg2 under_val (by kernel_rfl) cells_val hv h
  obtain ⟨m, hm, rfl, wm⟩ := DataW.trod_int Tryd.underlying3 h0
  obtain ⟨n, hn, rfl, wn⟩ := DataW.trod_int Tryd.underlying3 h1
  obtain rfl : v0 = .int .i64 m := by simpa using hm
  obtain rfl : v1 = .int .i64 n := by simpa using hn
  exact ⟨m, n, rfl, rfl, rfl, wm, wn⟩
theorem shut_val {m n : Int} (hm : (Lit.int .i64 m).wf = true) (hn : (Lit.int .i64 n).wf = true) : DataW.Trod enc Tryd.prog w base spare held 24 (.agg #[.int .i64 m, .int .i64 n]) (.agg [.lit (.int .i64 m), .lit (.int .i64 n)]) [] :=
  shut_agg2 (y0 := (.lit (.int .i64 m), [])) (y1 := (.lit (.int .i64 n), [])) under_val (by kernel_rfl) cells_val ⟨1, trod_int_mk 0 Tryd.underlying3 hm⟩ ⟨1, trod_int_mk 0 Tryd.underlying3 hn⟩
def numOf : Value → Int
  | .int _ n => n
  | _ => 0

theorem open_vals {fuel : Nat} {a : Option Addr} {len cap : Nat} {x : DataW H × List MemPlace} (h : DataW.trod enc Tryd.prog w base spare held fuel 26 [.slice a len cap] = some x) :
    ∃ l, SvIn w (.slice a len cap) l := by
  rcases Go.Deep.open_slice_pairs Tryd.underlying26 under_val cells_val rfl rfl (by kernel_rfl) (by kernel_rfl) h with ⟨hcs, _⟩ | ⟨p, len', cap', m, n, V0, V1, D0, D1, P0, P1, hcs, _, hl, hm, hmm, _, hx⟩
  · simp at hcs
    obtain ⟨rfl, rfl, rfl⟩ := hcs
    exact ⟨[], ⟨⟨_, _, rfl, Nat.le_refl _, fun h => absurd h (by simp)⟩, fun j hj => absurd hj (by simp), by simp⟩⟩
  · simp at hcs
    obtain ⟨rfl, rfl, rfl⟩ := hcs
    have hlm : len ≤ m := by rw [hmm]; split <;> omega
    have each : ∀ i, i < len → ∃ n0 n1, V0 i = .int .i64 n0 ∧ V1 i = .int .i64 n1 ∧ I64 n0 ∧ I64 n1 := by
      intro i hi
      obtain ⟨_, _, t0, t1⟩ := hx i (by omega)
      obtain ⟨n0, e0, _, w0⟩ := DataW.trod_int Tryd.underlying3 t0
      obtain ⟨n1, e1, _, w1⟩ := DataW.trod_int Tryd.underlying3 t1
      exact ⟨n0, n1, by simpa using e0, by simpa using e1, i64_of w0, i64_of w1⟩
    obtain ⟨b, off, spot⟩ := p
    have hget : ∀ j, j < len → (((List.range len).map fun i => (numOf (V0 i), numOf (V1 i))).getD j (0, 0)) = (numOf (V0 j), numOf (V1 j)) := by
      intro j hj
      rw [List.getD_eq_getElem?_getD, List.getElem?_map, List.getElem?_range hj]
      rfl
    refine ⟨(List.range len).map fun i => (numOf (V0 i), numOf (V1 i)), ⟨?_, ?_, by simp; omega⟩⟩
    · refine ⟨some ⟨b, off, spot⟩, cap, by simp, by simpa using hl, fun hp => ?_⟩
      have hp' : 0 < len := by simpa using hp
      have h0 := (hx 0 (by omega)).1
      have hspot : spot = none := by simpa [Addr.add] using World.cell?_spot h0
      subst hspot
      refine ⟨b, off, rfl, ?_, fun j hj => ?_⟩
      · exact World.block_lt_of_cell? w ⟨b, off, none⟩ (by simpa [Addr.add] using h0)
      · have hj' : j < len := by simpa using hj
        obtain ⟨c0, c1, _, _⟩ := hx j (by omega)
        obtain ⟨n0, n1, e0, e1, _, _⟩ := each j hj'
        rw [addr_add] at c0 c1
        rw [hget j hj', e0, e1]
        rw [e0] at c0
        rw [e1] at c1
        exact ⟨c0, by rw [Nat.add_assoc]; exact c1⟩
    · intro j hj
      have hj' : j < len := by simpa using hj
      obtain ⟨n0, n1, e0, e1, i0, i1⟩ := each j hj'
      rw [hget j hj', e0, e1]
      exact ⟨i0, i1⟩

theorem open_arr2 {r : Reach} {b0 : Nat} {v : Value} {d : DataW H} {p : List MemPlace} (hv : Value.okWide Tryd.prog w r b0 25 v) (h : DataW.Trod enc Tryd.prog w base spare held 25 v d p) :
    ∃ a b c e, v = .agg #[.int .i64 a, .int .i64 b, .int .i64 c, .int .i64 e] ∧ (I64 a ∧ I64 b) ∧ (I64 c ∧ I64 e) := by
  have hct : Tryd.prog.cellsOf 25 = 4 := by kernel_rfl
  have hu := Tryd.underlying25
  simp only [Value.okWide, hu] at hv
  obtain ⟨cs, rfl, hsz, _⟩ := hv
  obtain ⟨x0, x1, x2, x3, rfl⟩ := array4 (hsz.trans hct)
  obtain ⟨fuel, hf⟩ := h
  cases fuel with
  | zero => simp [DataW.trod] at hf
  | succ fuel =>
    simp only [DataW.trod, hu, hct, cells_val] at hf
    split at hf
    · obtain ⟨xs, hm, _⟩ := Option.map_eq_some_iff.1 hf
      obtain ⟨y0, _, h0⟩ := Lib.mapM_at hm 0 0 (by simp)
      obtain ⟨y1, _, h1⟩ := Lib.mapM_at hm 1 1 (by simp)
      have each : ∀ (u v : Value) (y : DataW H × List MemPlace), DataW.trod enc Tryd.prog w base spare held fuel 24 [u, v] = some y → ∃ m n, u = .int .i64 m ∧ v = .int .i64 n ∧ I64 m ∧ I64 n := by
        intro u v y hy
        obtain ⟨z0, z1, n, _, _, k0, k1⟩ := trod_struct2 under_val hy
        have q : Tryd.prog.cellsOf 3 = 1 := by kernel_rfl
        simp only [q] at k0 k1
        obtain ⟨m, e0, _, w0⟩ := DataW.trod_int Tryd.underlying3 k0
        obtain ⟨n, e1, _, w1⟩ := DataW.trod_int Tryd.underlying3 k1
        exact ⟨m, n, by simpa using e0, by simpa using e1, i64_of w0, i64_of w1⟩
      obtain ⟨a, b, e0, e1, i0, i1⟩ := each x0 x1 y0 (by simpa [Value.cells] using h0)
      obtain ⟨c, e, e2, e3, i2, i3⟩ := each x2 x3 y1 (by simpa [Value.cells] using h1)
      exact ⟨a, b, c, e, by rw [e0, e1, e2, e3], ⟨i0, i1⟩, ⟨i2, i3⟩⟩
    · cases hf

end

end Go.Proofs.YtfohdoahddommaaDoor
