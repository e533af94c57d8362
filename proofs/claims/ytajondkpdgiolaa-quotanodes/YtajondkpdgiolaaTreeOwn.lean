/-
  NODES OF ONE'S OWN: package tree's copied, own, Find and row, as they landed.
-/
import Derived.Test.YtajondkpdgiolaaTreePlace
import Derived.Test.YtajondkpdgiolaaTreeAcl
import Derived.Test.YtajondkpdgiolaaCopied
import Derived.Test.YtajondkpdgiolaaMids
namespace Go.Proofs.Ytajondkpdgiolaa
open Go.RowKit
set_option maxRecDepth 8000
set_option linter.unusedSimpArgs false
set_option linter.unusedVariables false

def wcl (x : Int) : List Value := [.int .i64 x]
theorem wd_okT : ElemOk 2 34 1 wcl :=
  ⟨Try.underlying34, by
    obtain ⟨i, h1, h2, h3, h4⟩ := info_of (e := 2) (z := .int .i64 0) (sz := 1) (b := 8) (by kernel_rfl)
    exact ⟨i, _, _, h1, h2, h3, h4, rfl, by omega⟩, by omega, fun _ => rfl, fun x u hu => by simp [wcl] at hu; subst hu; rfl⟩
theorem grs_row {W : World} {a : Option Addr} {l : List Gr} (h : GrsAt W a l) : RowAt 2 gcl W a l := fun j g hg => by
  obtain ⟨y, hy, h1, h2⟩ := h j g hg
  refine ⟨y, hy, fun i hi => ?_⟩
  match i, hi with
  | 0, _ => exact h1
  | 1, _ => rw [add_off _ _ 1 (by decide)]; exact h2
theorem row_grs {W : World} {a : Option Addr} {l : List Gr} (h : RowAt 2 gcl W a l) : GrsAt W a l := fun j q hq => by
  obtain ⟨y, hy, hc⟩ := h j q hq
  have h1 := hc 1 (by omega)
  rw [add_off _ _ 1 (by decide)] at h1
  exact ⟨y, hy, by simpa [gcl] using hc 0 (by omega), h1⟩
theorem wrds_row {W : World} {a : Option Addr} {l : List Int} (h : WrdsAt W a l) : RowAt 1 wcl W a l := fun j q hq => by
  obtain ⟨y, hy, h1⟩ := h j q hq
  refine ⟨y, hy, fun i hi => ?_⟩
  obtain rfl : i = 0 := by omega
  simpa [wcl] using h1
theorem row_wrds {W : World} {a : Option Addr} {l : List Int} (h : RowAt 1 wcl W a l) : WrdsAt W a l := fun j q hq => by
  obtain ⟨y, hy, hc⟩ := h j q hq
  refine ⟨y, hy, ?_⟩
  simpa [wcl] using hc 0 (by omega)
abbrev ndz : Array Value := #[.string ⟨#[]⟩, .bool false, .int .i64 0, .int .i64 0, .int .i64 0, .int .i64 0, .slice none 0 0, .int .i64 0, .int .i64 0, .int .i64 0, .int .i64 0, .slice none 0 0, .int .i64 0, .int .i64 0, .int .i64 0, .int .i64 0]
/-- Few enough to be copied. -/
def PN.Few (x : PN) : Prop := x.n.acl.length ≤ 1000 ∧ x.n.words.length ≤ 1000
theorem GrsAt.same {W W' : World} {g : Nat} {l : List Gr} (h : GrsAt W (some ⟨g, 0, none⟩) l) (hb : W'.heap[g]? = W.heap[g]?) : GrsAt W' (some ⟨g, 0, none⟩) l := row_grs fun j q hq => by
  obtain ⟨y, hy, hc⟩ := grs_row h j q hq
  obtain rfl := Option.some.inj hy
  refine ⟨_, rfl, fun i hi => ?_⟩
  rw [add_at] at *
  rw [← hc i hi, add_at]
  exact World.cell?_of_block (a := ⟨g, j * 2 + i, none⟩) hb
theorem WrdsAt.same {W W' : World} {g : Nat} {l : List Int} (h : WrdsAt W (some ⟨g, 0, none⟩) l) (hb : W'.heap[g]? = W.heap[g]?) : WrdsAt W' (some ⟨g, 0, none⟩) l := row_wrds fun j q hq => by
  obtain ⟨y, hy, hc⟩ := wrds_row h j q hq
  obtain rfl := Option.some.inj hy
  refine ⟨_, rfl, fun i hi => ?_⟩
  rw [add_at] at *
  rw [← hc i hi, add_at]
  exact World.cell?_of_block (a := ⟨g, j * 1 + i, none⟩) hb
/-- A row lies nowhere, or in a block of which that holds. -/
def InBlk (a : Option Addr) (P : Nat → Prop) : Prop := a = none ∨ ∃ g, a = some ⟨g, 0, none⟩ ∧ P g
theorem InBlk.imp {a : Option Addr} {P Q : Nat → Prop} (h : InBlk a P) (k : ∀ g, P g → Q g) : InBlk a Q := by
  rcases h with h | ⟨g, h, hp⟩
  · exact .inl h
  · exact .inr ⟨g, h, k g hp⟩
theorem grs_keep {W W' : World} {a : Option Addr} {l : List Gr} (h : GrsAt W a l) (hb : InBlk a fun g => W'.heap[g]? = W.heap[g]?) : GrsAt W' a l := by
  rcases hb with rfl | ⟨g, rfl, hb⟩
  · intro j q hq
    obtain ⟨y, hy, _⟩ := h j q hq
    cases hy
  · exact h.same hb
theorem wrds_keep {W W' : World} {a : Option Addr} {l : List Int} (h : WrdsAt W a l) (hb : InBlk a fun g => W'.heap[g]? = W.heap[g]?) : WrdsAt W' a l := by
  rcases hb with rfl | ⟨g, rfl, hb⟩
  · intro j q hq
    obtain ⟨y, hy, _⟩ := h j q hq
    cases hy
  · exact h.same hb
/-- Its rows lie in blocks of their own, behind that number. -/
def PN.Own (y : PN) (b : Nat) (W : World) : Prop := InBlk y.aa (fun g => b ≤ g ∧ g < W.heap.size) ∧ InBlk y.wa (fun g => b ≤ g ∧ g < W.heap.size)
theorem PN.At.cells {y : PN} {W : World} {b g : Nat} {W0 : World} (h : y.At W) (ho : y.Own b W0) (hg : g < b) (o : Nat) (vs : List Value) : y.At (W.setCells g o vs) :=
  ⟨grs_keep h.g (ho.1.imp fun k hk => heap_setCells_other (b := g) (k := k) (by omega) vs o W), wrds_keep h.w (ho.2.imp fun k hk => heap_setCells_other (b := g) (k := k) (by omega) vs o W)⟩
/-- Its rows lie in blocks other than a value's own. -/
def PN.Apart (y : PN) (W : World) (v : Value) : Prop := InBlk y.aa (fun g => g < W.heap.size ∧ some g ≠ v.ownBlock) ∧ InBlk y.wa (fun g => g < W.heap.size ∧ some g ≠ v.ownBlock)
theorem PN.Apart.grew {y : PN} {W W' : World} {v v' : Value} (h : y.Apart W v) (ha : y.At W) (k : Grew W v W' v') : y.Apart W' v' ∧ y.At W' :=
  ⟨⟨h.1.imp fun g hg => ⟨Nat.lt_of_lt_of_le hg.1 k.by_.size, k.apart hg.1 hg.2⟩, h.2.imp fun g hg => ⟨Nat.lt_of_lt_of_le hg.1 k.by_.size, k.apart hg.1 hg.2⟩⟩, grs_keep ha.g (h.1.imp fun g hg => k.by_.block _ hg.1 hg.2), wrds_keep ha.w (h.2.imp fun g hg => k.by_.block _ hg.1 hg.2)⟩
theorem PN.Apart.size {y : PN} {W W' : World} {v : Value} (h : y.Apart W v) (b : W.heap.size ≤ W'.heap.size) : y.Apart W' v := ⟨h.1.imp fun g hg => ⟨by omega, hg.2⟩, h.2.imp fun g hg => ⟨by omega, hg.2⟩⟩
theorem PN.Own.apart {y : PN} {W W' : World} {b : Nat} {v : Value} (h : y.Own b W) (hv : ∀ k, v.ownBlock = some k → k < b) : y.Apart W v :=
  ⟨h.1.imp fun g hg => ⟨hg.2, fun e => by have := hv _ e.symm; omega⟩, h.2.imp fun g hg => ⟨hg.2, fun e => by have := hv _ e.symm; omega⟩⟩
theorem PN.Own.lower {y : PN} {W W' : World} {b c : Nat} (h : y.Own b W) (hc : c ≤ b) (hs : W.heap.size ≤ W'.heap.size) : y.Own c W' := ⟨h.1.imp fun g hg => ⟨by omega, by omega⟩, h.2.imp fun g hg => ⟨by omega, by omega⟩⟩
end Go.Proofs.Ytajondkpdgiolaa
