/- Layer 5, check: the document's map of places: how its keys read. -/
import Derived.Test.YtfohdoahddommaaGreatDoorMapAt
import Derived.DeepKeys4
import Derived.Maps.Keyed
namespace Go.Proofs.YtfohdoahddommaaGreatDoor
open Go.RowKit
open Go.Maps (Keyed)
set_option linter.unusedVariables false
set_option maxRecDepth 100000

abbrev plV (x : Int × Int × Int) : Value := .agg #[.int .i64 x.1, .int .i64 x.2.1, .int .i64 x.2.2]

theorem laid5 : laidOutB Tryz.prog = true := by kernel_rfl
theorem rowPl : (49 : TypeId) < Tryz.prog.types.size := of_decide_eq_true (by kernel_rfl)
theorem widePl : (match Tryz.prog.underlying 49 with | some (.array _ _) | some (.struct _) => true | _ => false) = true := by kernel_rfl
theorem keyedPl : Keyed Tryz.prog 49 := Keyed.of_law (deep_law_laid laid5 (m := 2) (by omega) rowPl (by kernel_rfl) widePl)
theorem cellsPl : Tryz.prog.cellsOf 49 = 3 := by kernel_rfl
theorem cellsInt5 : Tryz.prog.cellsOf 3 = 1 := by kernel_rfl
theorem ktPl : Tryz.prog.keyType 49 = true := by kernel_rfl

def Wf3 (x : Int × Int × Int) : Prop := (Lit.int .i64 x.1).wf = true ∧ (Lit.int .i64 x.2.1).wf = true ∧ (Lit.int .i64 x.2.2).wf = true

theorem key_pl {x : Int × Int × Int} (h : Wf3 x) : ∃ i, keyOf Tryz.prog 49 (plV x) = some i := by
  obtain ⟨a, d, e⟩ := x
  obtain ⟨h1, h2, h3⟩ := h
  unfold keyOf
  rw [Tryz.underlying49]
  simp only
  rw [ktPl]
  have hf : (plV (a, d, e)).formed Tryz.prog 49 = true := by simp [Value.formed, Tryz.underlying49, cellsPl]
  rw [hf]
  simp only [Bool.and_self, if_true]
  obtain ⟨m, hm⟩ : ∃ m, Tryz.prog.types.size = m + 1 := Nat.exists_eq_succ_of_ne_zero (Nat.ne_of_gt (Nat.lt_of_le_of_lt (Nat.zero_le _) rowPl))
  rw [hm]
  simp only at h1 h2 h3
  refine ⟨.string (keyBytes [.int .i64 a, .int .i64 d, .int .i64 e]), ?_⟩
  simp [Program.keyLits, Tryz.underlying49, Tryz.underlying3, cellsPl, cellsInt5, Value.cells, h1, h2, h3]

end Go.Proofs.YtfohdoahddommaaGreatDoor
