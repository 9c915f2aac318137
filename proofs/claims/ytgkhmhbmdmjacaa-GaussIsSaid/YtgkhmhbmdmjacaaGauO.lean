/- Layer 3, gauss: a value that comes in: opened, and shut. -/
import Derived.Test.YtgkhmhbmdmjacaaBase
import Derived.Lib.SmallJoins
namespace Go.Proofs.Ytgkhmhbmdmjacaa
open Go.RowKit Go.Joins Go.ChangeShapes Go.WideShapes
set_option linter.unusedVariables false

theorem under_val : Try.prog.underlying 23 = some (.struct #[{ name := "Re", type := 3, offset := 0, embedded := false, tag := "", pkgPath := "", byteOffset := 0 }, { name := "Im", type := 3, offset := 1, embedded := false, tag := "", pkgPath := "", byteOffset := 8 }]) := by kernel_rfl
theorem cells_val : Try.prog.cellsOf 23 = 2 := by kernel_rfl

section
variable {H : Type} {enc : TypeId × Value → H} {w : World} {base : Nat} {spare : Nat → Bool} {held : Bool}
theorem open_val {r : Reach} {b0 : Nat} {v : Value} {d : DataW H} {p : List MemPlace} (hv : Value.okWide Try.prog w r b0 23 v) (h : DataW.Trod enc Try.prog w base spare held 23 v d p) :
    ∃ m n, v = .agg #[.int .i64 m, .int .i64 n] ∧ d = .agg [.lit (.int .i64 m), .lit (.int .i64 n)] ∧ p = [] ∧ (Lit.int .i64 m).wf = true ∧ (Lit.int .i64 n).wf = true := by
  obtain ⟨v0, v1, y0, y1, k, rfl, rfl, rfl, h0, h1⟩ := open_agg2 under_val (by kernel_rfl) cells_val hv h
  obtain ⟨m, hm, rfl, wm⟩ := DataW.trod_int Try.underlying3 h0
  obtain ⟨n, hn, rfl, wn⟩ := DataW.trod_int Try.underlying3 h1
  obtain rfl : v0 = .int .i64 m := by simpa using hm
  obtain rfl : v1 = .int .i64 n := by simpa using hn
  exact ⟨m, n, rfl, rfl, rfl, wm, wn⟩
theorem shut_val {m n : Int} (hm : (Lit.int .i64 m).wf = true) (hn : (Lit.int .i64 n).wf = true) : DataW.Trod enc Try.prog w base spare held 23 (.agg #[.int .i64 m, .int .i64 n]) (.agg [.lit (.int .i64 m), .lit (.int .i64 n)]) [] :=
  shut_agg2 (y0 := (.lit (.int .i64 m), [])) (y1 := (.lit (.int .i64 n), [])) under_val (by kernel_rfl) cells_val ⟨1, trod_int_mk 0 Try.underlying3 hm⟩ ⟨1, trod_int_mk 0 Try.underlying3 hn⟩
end

end Go.Proofs.Ytgkhmhbmdmjacaa
