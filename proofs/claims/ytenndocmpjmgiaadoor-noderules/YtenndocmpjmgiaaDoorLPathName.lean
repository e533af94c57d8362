/-
  PACKAGE path: Name (a range over the text's runes), Join, and the last slash's functions, against the plain functions.
-/
import Derived.Test.YtenndocmpjmgiaaDoorLPathMore
import Derived.Laws.RangeAny
namespace Go.Proofs.YtenndocmpjmgiaaDoor
open Go.RowKit
set_option linter.unusedSimpArgs false
set_option linter.unusedVariables false
end Go.Proofs.YtenndocmpjmgiaaDoor
