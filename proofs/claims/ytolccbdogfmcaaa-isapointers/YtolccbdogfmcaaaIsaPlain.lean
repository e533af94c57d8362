/-
  PACKAGE isa AS IT LANDED, what the laws of words and pointers ask of it.
-/
import Derived.Test.YtolccbdogfmcaaaIsaFns
namespace Go.Proofs.Ytolccbdogfmcaaa
open Go.RowKit
set_option maxRecDepth 8000

theorem isaOkW : IsaOk (fun _ => True) where
  enc := fun i w _ => iencode_any i w
  dec := fun x h w _ => idecode_any x h w
  encP := fun p w _ => iencp_any p w
  decP := fun x h w _ => idecp_any x h w
end Go.Proofs.Ytolccbdogfmcaaa
