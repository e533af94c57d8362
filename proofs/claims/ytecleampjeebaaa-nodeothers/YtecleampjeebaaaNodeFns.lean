/-
  PACKAGE node: what its functions answer (NodeEncs, NodeParse, NodeSame2), gathered.
-/
import Derived.Test.YtecleampjeebaaaNodeSame2
import Derived.Test.YtecleampjeebaaaNodeRefNod
namespace Go.Proofs.Ytecleampjeebaaa
open Go.RowKit
set_option linter.unusedSimpArgs false
set_option linter.unusedVariables false

/-- A row of one's own, as a text. -/
theorem own_text {W : World} {base : Nat} {v : Value} {l : List UInt8} (h : OwnB W base v l) : (convert 34 9 v).run Try.prog W = .ok (.string ⟨l.toArray⟩) W := by
  have hrow : W.ownsRow base 5 1 v l.length (valsB l) := h
  rcases h.2 with ⟨rfl, h2⟩ | ⟨g, cap, cur, rfl, _⟩
  · obtain rfl : l = [] := List.eq_nil_of_length_eq_zero h2
    rw [run_convert_bytes_string W 34 9 5 none 0 0 Try.underlying34 Try.underlying5 Try.underlying9]
    rfl
  · refine run_convert_bytes_back (P := Try.prog) W 34 9 5 ⟨g, 0, none⟩ cap l Try.underlying34 Try.underlying5 Try.underlying9 fun j hj => ?_
    rw [add_at g j, hrow.cellAt j (by omega)]
    simp [valsB, List.getElem?_eq_getElem hj]
theorem nknown_any (w : World) : Calls Try.prog 8 #[] w fun e w' => e = .returned (.bool true) ∧ Below w.heap.size w w' := by
  have hm : (⟨⟨#[]⟩, ⟨0, 0, 3, 255⟩, ⟨#[]⟩, ⟨0, 0, 3, 255⟩, ⟨#[]⟩⟩ : Msg).Plain := ⟨by decide, ⟨by decide, by decide, by decide, by decide⟩, by decide, ⟨by decide, by decide, by decide, by decide⟩, by decide⟩
  have k := nencM_any ⟨⟨#[]⟩, ⟨0, 0, 3, 255⟩, ⟨#[]⟩, ⟨0, 0, 3, 255⟩, ⟨#[]⟩⟩ hm w
  go_enter Try.func8, Try.ntmps8
  go_wp2_with fail
  refine k.mono ?_
  rintro e W ⟨v, rfl, ho, hB⟩
  have hcv := own_text ho
  have he : encM ⟨⟨#[]⟩, ⟨0, 0, 3, 255⟩, ⟨#[]⟩, ⟨0, 0, 3, 255⟩, ⟨#[]⟩⟩ = [0, 0, 0, 3, 255, 0, 0, 0, 3, 255, 0] := by decide
  rw [he] at hcv
  clear ho he k hm
  go_wp2
  go_ret
  exact ⟨rfl, hB⟩
end Go.Proofs.Ytecleampjeebaaa
