/-
  Contracts of the reference model's layout functions. Conditions: at most forty fields.
-/
import Derived.Test.YtlgoiccekgjhnaaRows
import Derived.Test.YtlgoiccekgjhnaaLay
import Derived.Test.YtlgoiccekgjhnaaLater
import Derived.Test.YtlgoiccekgjhnaaKow
import Derived.WalkKit
import Derived.ProofKit
import Derived.Outline
import Derived.WalkLawsBesides
import Derived.WalkSpells
import Derived.Lib.Hide
import Derived.Deep.QuietTactic
import Derived.BigQuiet
namespace Go.Proofs.Ytlgoiccekgjhnaa
open Go.ChangeShapes Go.WideShapes Go.RowKit
set_option linter.unusedVariables false
set_option maxHeartbeats 8000000
set_option maxRecDepth 100000

/-- What a function says that makes nothing that counts. -/
def Says (w : World) (v : Value) (e : Ending) (w' : World) : Prop := e = .returned v ∧ Below w.heap.size w w'
section
variable {w w' : World} {b m c : Nat} {n : Int} {A : Option Addr}
end

end Go.Proofs.Ytlgoiccekgjhnaa
