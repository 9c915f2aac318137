/- Layer 5, check: the walk of CheckTells, with the document's Check. -/
import Derived.Test.YtnhibimpolamoaaChkTells
import Derived.Test.YtnhibimpolamoaaRefG
namespace Go.Proofs.Ytnhibimpolamoaa
open Go.RowKit Go.Lib
set_option linter.unusedVariables false

theorem law_tells_all (v : Value) (l : List (Int × Int)) (w : World) (hv : SnIn w v l) :
    Calls Try.prog 3 #[v] w fun e w' => e = .returned (.bool true) ∧ Below w.heap.size w w' :=
  law_tells (fun v l q hq hl w hv => refcheck_any v l q hq hl w hv) v l w hv

end Go.Proofs.Ytnhibimpolamoaa
