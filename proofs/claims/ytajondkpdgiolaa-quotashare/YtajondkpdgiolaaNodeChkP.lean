/-
  A NODE, CHECKED, in plain words. Written by mk_nchk.py.
-/
import Derived.Test.YtajondkpdgiolaaRgs
import Derived.Test.YtajondkpdgiolaaNodeRefEnc
import Derived.Test.YtajondkpdgiolaaLPathPure
import Derived.Test.YtajondkpdgiolaaLAclPure
namespace Go.Proofs.Ytajondkpdgiolaa
open Go.RowKit
set_option maxRecDepth 8000
set_option linter.unusedSimpArgs false
set_option linter.unusedVariables false

abbrev Nod.rg (n : Nod) : Rg := ⟨n.r1, n.r2, n.r3, n.gates⟩
def rz (n : Nod) : Bool := n.r1 == 0 && (n.r2 == 0 && (n.r3 == 0 && n.gates == 0))
/-- What is wrong with a directory, with a segment, with a node. -/
def dirC (n : Nod) : Int := if rz n = true ∧ n.words.length = 0 then 0 else 11
def segC (n : Nod) : Int := if eqs n.path slashS = true then 3 else if chkR n.rg ≠ 0 then chkR n.rg else if 16 < n.words.length then 4 else 0
def nodC (n : Nod) : Int := if checkOf n.path ≠ 0 then checkOf n.path else if chkL n.label ≠ 0 then chkL n.label else if chkL n.by_ ≠ 0 then chkL n.by_ else if chkA n.acl ≠ 0 then chkA n.acl else if n.dir = true then dirC n else segC n
end Go.Proofs.Ytajondkpdgiolaa
