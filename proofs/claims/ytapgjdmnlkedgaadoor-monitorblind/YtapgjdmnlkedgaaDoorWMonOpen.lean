/-
  ROWS OF ROWS OF NUMBERS THAT CAME IN.
-/
import Derived.Test.YtapgjdmnlkedgaaDoorPt1
import Derived.Test.YtapgjdmnlkedgaaDoorPt3
namespace Go.Proofs.YtapgjdmnlkedgaaDoor
open Go.ChangeShapes Go.WideShapes Go.ChangeAt Go.RowKit
set_option maxRecDepth 8000
set_option linter.unusedVariables false
set_option linter.unusedSimpArgs false

/-- A row of numbers, and where it lies. -/
structure PI where
  l : List Int
  a : Option Addr
  c : Nat
def PI.cs (x : PI) : List Value := [.slice x.a x.l.length x.c]
structure PI.At (W : World) (x : PI) : Prop where
  r : RowAt 1 icell W x.a x.l
  f : ∀ q ∈ x.l, -9223372036854775808 ≤ q ∧ q ≤ 9223372036854775807
structure RowI (W : World) (a : Option Addr) (l : List PI) : Prop where
  r : RowAt 1 PI.cs W a l
  p : ∀ x ∈ l, x.At W
  n : l.length ≤ 9223372036854775807
theorem PI.At.below {W W' : World} {x : PI} (h : x.At W) (b : Below W.heap.size W W') : x.At W' := ⟨h.r.below (fun _ => rfl) b, h.f⟩
theorem RowI.below {W W' : World} {a : Option Addr} {l : List PI} (h : RowI W a l) (b : Below W.heap.size W W') : RowI W' a l := ⟨h.r.below (fun _ => rfl) b, fun x hx => (h.p x hx).below b, h.n⟩
section
variable {H : Type} {enc : TypeId × Value → H} {W : World}
theorem reads_pi : Reads enc W 0 (fun _ => true) true 26 fun cs => ∃ x : PI, cs = x.cs ∧ x.At W := fun fu cs x h => by
  obtain ⟨l, a, c, e, h1, h2, _, _⟩ := reads_rows (f := icell) Tryd.underlying26 cInt reads_ic cInts fu cs x h
  exact ⟨⟨l, a, c⟩, e, h1, h2⟩
theorem open_iis {n : Nat} {a : Option Addr} {len cap : Nat} {x : DataW H × List MemPlace} (h : DataW.trod enc Tryd.prog W 0 (fun _ => true) true n 54 [.slice a len cap] = some x) : ∃ l : List PI, l.length = len ∧ RowI W a l := by
  obtain ⟨l, hl, hc, hf, _, h1, h2⟩ := open_rows (f := PI.cs) (q := PI.At W) Tryd.underlying54 cInts reads_pi h
  exact ⟨l, hl, ⟨hc, hf, by omega⟩⟩
end
theorem of_pi {x : PI} {W : World} (h : x.At W) : Calls Tryd.prog 15 #[.slice x.a x.l.length x.c] W fun e w' => e = .returned (.string (pathB (namesOf x.l))) ∧ Below W.heap.size W w' :=
  of_any x.a x.l x.l.length x.c W rfl (fun j hj => by
    obtain ⟨y, hy, hc⟩ := h.r j x.l[j] (List.getElem?_eq_getElem hj)
    refine ⟨y, hy, ?_⟩
    have := hc 0 (by decide)
    rw [show j * 1 + 0 = j by omega] at this
    rw [this]
    simp [icell, List.getD_eq_getElem?_getD, List.getElem?_eq_getElem hj]) (fun j => by
    by_cases hj : j < x.l.length
    · have : x.l.getD j 0 = x.l[j] := by simp [List.getD_eq_getElem?_getD, List.getElem?_eq_getElem hj]
      rw [this]
      exact h.f _ (List.getElem_mem hj)
    · have : x.l.getD j 0 = 0 := by simp [List.getD_eq_getElem?_getD, List.getElem?_eq_none (show x.l.length ≤ j by omega)]
      rw [this]
      decide)
end Go.Proofs.YtapgjdmnlkedgaaDoor
