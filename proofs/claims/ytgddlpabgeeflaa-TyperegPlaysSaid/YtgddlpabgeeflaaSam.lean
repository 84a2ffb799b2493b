/-
  The comparison of package layout with the definition, under contracts of the package's functions. Conditions: those contracts; at most forty fields.
-/
import Derived.Test.YtgddlpabgeeflaaLaD
namespace Go.Proofs.Ytgddlpabgeeflaa
open Go.ChangeShapes Go.WideShapes Go.RowKit
set_option linter.unusedVariables false
set_option maxHeartbeats 8000000
set_option maxRecDepth 100000

end Go.Proofs.Ytgddlpabgeeflaa
