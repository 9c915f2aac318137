/- Programs and instructions among the arguments: opened, and shut. -/
import Derived.Test.YtfohdoahddommaaDoorCodS
import Derived.Lib.SmallJoins
import Derived.Deep.SlicePairs
import Derived.ProofKit
import Derived.OpenShut
namespace Go.Proofs.YtfohdoahddommaaDoor
open Go.RowKit Go.Joins Go.ChangeShapes Go.WideShapes
set_option linter.unusedVariables false
set_option maxRecDepth 100000

theorem under_ins : Tryd.prog.underlying 37 = some (.struct #[{ name := "Op", type := 3, offset := 0, embedded := false, tag := "", pkgPath := "", byteOffset := 0 }, { name := "A", type := 3, offset := 1, embedded := false, tag := "", pkgPath := "", byteOffset := 8 }]) := by kernel_rfl

theorem cells_ins : Tryd.prog.cellsOf 37 = 2 := by kernel_rfl

def numOfI : Value → Int
  | .int _ n => n
  | _ => 0

section
variable {H : Type} {enc : TypeId × Value → H} {w : World} {base : Nat} {spare : Nat → Bool} {held : Bool}

theorem open_ins {fuel : Nat} {a : Option Addr} {len cap : Nat} {x : DataW H × List MemPlace} (h : DataW.trod enc Tryd.prog w base spare held fuel 22 [.slice a len cap] = some x) :
    ∃ l, SnIn w (.slice a len cap) l := by
  rcases Go.Deep.open_slice_pairs Tryd.underlying22 under_ins cells_ins rfl rfl (by kernel_rfl) (by kernel_rfl) h with ⟨hcs, _⟩ | ⟨p, len', cap', m, n, V0, V1, D0, D1, P0, P1, hcs, _, hl, hm, hmm, _, hx⟩
  · simp at hcs
    obtain ⟨rfl, rfl, rfl⟩ := hcs
    exact ⟨[], ⟨⟨⟨_, _, rfl, Nat.le_refl _, fun h => absurd h (by simp)⟩, fun j hj => absurd hj (by simp), by simp⟩, fun n c e => (by injection e with _ e1 e2; exact ⟨e1.symm, e2.symm⟩)⟩⟩
  · simp at hcs
    obtain ⟨rfl, rfl, rfl⟩ := hcs
    have hlm : len ≤ m := by rw [hmm]; split <;> omega
    have each : ∀ i, i < len → ∃ n0 n1, V0 i = .int .i64 n0 ∧ V1 i = .int .i64 n1 ∧ I64 n0 ∧ I64 n1 := by
      intro i hi
      obtain ⟨_, _, t0, t1⟩ := hx i (by omega)
      obtain ⟨n0, e0, _, w0⟩ := DataW.trod_int Tryd.underlying3 t0
      obtain ⟨n1, e1, _, w1⟩ := DataW.trod_int Tryd.underlying3 t1
      exact ⟨n0, n1, by simpa using e0, by simpa using e1, i64_of w0, i64_of w1⟩
    obtain ⟨b, off, spot⟩ := p
    have hget : ∀ j, j < len → (((List.range len).map fun i => (numOfI (V0 i), numOfI (V1 i))).getD j (0, 0)) = (numOfI (V0 j), numOfI (V1 j)) := by
      intro j hj
      rw [List.getD_eq_getElem?_getD, List.getElem?_map, List.getElem?_range hj]
      rfl
    refine ⟨(List.range len).map fun i => (numOfI (V0 i), numOfI (V1 i)), ⟨⟨?_, ?_, by simp; omega⟩, fun n c e => (by injection e with e1; cases e1)⟩⟩
    · refine ⟨some ⟨b, off, spot⟩, cap, by simp, by simpa using hl, fun hp => ?_⟩
      have hp' : 0 < len := by simpa using hp
      have h0 := (hx 0 (by omega)).1
      have hspot : spot = none := by simpa [Addr.add] using World.cell?_spot h0
      subst hspot
      refine ⟨b, off, rfl, ?_, fun j hj => ?_⟩
      · exact World.block_lt_of_cell? w ⟨b, off, none⟩ (by simpa [Addr.add] using h0)
      · have hj' : j < len := by simpa using hj
        obtain ⟨c0, c1, _, _⟩ := hx j (by omega)
        obtain ⟨n0, n1, e0, e1, _, _⟩ := each j hj'
        rw [addr_add] at c0 c1
        rw [hget j hj', e0, e1]
        rw [e0] at c0
        rw [e1] at c1
        exact ⟨c0, by rw [Nat.add_assoc]; exact c1⟩
    · intro j hj
      have hj' : j < len := by simpa using hj
      obtain ⟨n0, n1, e0, e1, i0, i1⟩ := each j hj'
      rw [hget j hj', e0, e1]
      exact ⟨i0, i1⟩

theorem open_in1 {r : Reach} {b0 : Nat} {v : Value} {d : DataW H} {p : List MemPlace} (hv : Value.okWide Tryd.prog w r b0 37 v) (h : DataW.Trod enc Tryd.prog w base spare held 37 v d p) :
    ∃ m n, v = .agg #[.int .i64 m, .int .i64 n] ∧ d = .agg [.lit (.int .i64 m), .lit (.int .i64 n)] ∧ p = [] ∧ (Lit.int .i64 m).wf = true ∧ (Lit.int .i64 n).wf = true := by
  obtain ⟨v0, v1, y0, y1, k, rfl, rfl, rfl, h0, h1⟩ := open_agg2 under_ins (by kernel_rfl) cells_ins hv h
  obtain ⟨m, hm, rfl, wm⟩ := DataW.trod_int Tryd.underlying3 h0
  obtain ⟨n, hn, rfl, wn⟩ := DataW.trod_int Tryd.underlying3 h1
  obtain rfl : v0 = .int .i64 m := by simpa using hm
  obtain rfl : v1 = .int .i64 n := by simpa using hn
  exact ⟨m, n, rfl, rfl, rfl, wm, wn⟩

theorem shut_in1 {m n : Int} (hm : (Lit.int .i64 m).wf = true) (hn : (Lit.int .i64 n).wf = true) : DataW.Trod enc Tryd.prog w base spare held 37 (.agg #[.int .i64 m, .int .i64 n]) (.agg [.lit (.int .i64 m), .lit (.int .i64 n)]) [] :=
  shut_agg2 (y0 := (.lit (.int .i64 m), [])) (y1 := (.lit (.int .i64 n), [])) under_ins (by kernel_rfl) cells_ins ⟨1, trod_int_mk 0 Tryd.underlying3 hm⟩ ⟨1, trod_int_mk 0 Tryd.underlying3 hn⟩

end

end Go.Proofs.YtfohdoahddommaaDoor
