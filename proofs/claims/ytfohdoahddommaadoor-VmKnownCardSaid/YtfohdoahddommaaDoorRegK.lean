/- A table of what the slots of a drawn region hold: a value, or anything. -/
import Derived.Test.YtfohdoahddommaaDoorRegQ
namespace Go.Proofs.YtfohdoahddommaaDoor
open Go.RowKit
set_option linter.unusedVariables false
set_option maxRecDepth 100000

inductive Ks
  | is (v : Value)
  | any

def Ks.ok (k : Ks) (u : Value) (w : World) : Prop :=
  match k with
  | .is v => u = v
  | .any => True

theorem Ks.stable (k : Ks) (u : Value) (w w' : World) (h : k.ok u w) (hb : Below w.heap.size w w') : k.ok u w' := by
  cases k with
  | is v => exact h
  | any => trivial

theorem guard_no {ops : Array Oper} {T : Nat → Value → World → Prop} {o : Oper} {g : Nat} {b : Bool} {d : Tmp} (h : o.guard = some (g, b)) (hd : (ops[g]?).bind (·.dst) = some d) (ht : ∀ u w, T d u w → u = .bool (!b)) : GuardIs ops T o false := by
  unfold GuardIs; rw [h]; exact ⟨d, hd, ht⟩

theorem not_written {ops : Array Oper} {k : Nat} (h : (ops.all fun o => o.dst != some k) = true) (j : Nat) (o : Oper) (ho : ops[j]? = some o) : o.dst ≠ some k := by
  have := Array.all_eq_true'.1 h o (Array.mem_of_getElem? ho)
  simpa using this

end Go.Proofs.YtfohdoahddommaaDoor
