/-
  NODES AND BRACKETS THAT CAME IN (door seats). Written by mk_ndoor.py.
-/
import Derived.Test.YtajondkpdgiolaaLabOpen
import Derived.Test.YtajondkpdgiolaaNodeRefEnc
import Derived.Test.YtajondkpdgiolaaRws
import Derived.Test.YtajondkpdgiolaaRgs
namespace Go.Proofs.Ytajondkpdgiolaa
open Go.ChangeShapes Go.WideShapes Go.ChangeAt Go.RowKit
set_option maxRecDepth 8000
set_option linter.unusedVariables false
set_option linter.unusedSimpArgs false

def gcells (g : Gr) : List Value := [.string g.u, .int .i64 g.m]
def wcell (x : Int) : List Value := [.int .i64 x]
theorem RowAt.grs {W : World} {a : Option Addr} {l : List Gr} (h : RowAt 2 gcells W a l) : GrsAt W a l := fun j q hq => by
  obtain ⟨y, hy, hc⟩ := h j q hq
  refine ⟨y, hy, hc 0 (by omega), ?_⟩
  have := hc 1 (by omega)
  rw [add_off _ _ _ (by omega)] at this
  exact this
theorem RowAt.wrds {W : World} {a : Option Addr} {l : List Int} (h : RowAt 1 wcell W a l) : WrdsAt W a l := fun j q hq => by
  obtain ⟨y, hy, hc⟩ := h j q hq
  have := hc 0 (by omega)
  rw [Nat.mul_one, Nat.add_zero] at this
  exact ⟨y, hy, this⟩
theorem undGr : Try.prog.underlying 77 = some (.struct (Try.prog.fieldsOf 77)) := by kernel_rfl
theorem undRi : Try.prog.underlying 33 = some (.struct (Try.prog.fieldsOf 33)) := by kernel_rfl
theorem undNd : Try.prog.underlying 36 = some (.struct (Try.prog.fieldsOf 36)) := by kernel_rfl
theorem cGr : Try.prog.cellsOf 77 = 2 := by kernel_rfl
theorem cRi : Try.prog.cellsOf 33 = 4 := by kernel_rfl
theorem cNd : Try.prog.cellsOf 36 = 16 := by kernel_rfl
theorem cI64 : Try.prog.cellsOf 2 = 1 := by kernel_rfl
theorem cGrs : Try.prog.cellsOf 31 = 1 := by kernel_rfl
theorem cWds : Try.prog.cellsOf 34 = 1 := by kernel_rfl
/-- What a node that came in keeps to. -/
structure Nod.Fits (n : Nod) : Prop where
  p : n.path.size ≤ 9223372036854775807
  g : ∀ g ∈ n.acl, g.u.size ≤ 9223372036854775807
  w : ∀ x ∈ n.words, -9223372036854775808 ≤ x ∧ x ≤ 9223372036854775807
section
variable {H : Type} {enc : TypeId × Value → H} {W : World}
theorem reads_gr {base : Nat} {sp : Nat → Bool} {held : Bool} : Reads enc W base sp held 77 fun cs => ∃ g, cs = gcells g ∧ g.u.size ≤ 9223372036854775807 := fun n cs x h => by
  have hl := struct_len undGr cGr h
  obtain ⟨u, e0, w0⟩ := read_field (i := 0) (ty := 9) (off := 0) undGr (by kernel_rfl) cStr (reads_string Try.underlying9) h
  obtain ⟨m, e1, w1⟩ := read_field (i := 1) (ty := 3) (off := 1) undGr (by kernel_rfl) cInt (reads_int Try.underlying3) h
  match cs, hl with
  | [v0, v1], _ =>
    simp at e0 e1
    subst e0 e1
    exact ⟨⟨u, m⟩, rfl, w0⟩
theorem reads_ri {base : Nat} {sp : Nat → Bool} {held : Bool} : Reads enc W base sp held 33 fun cs => ∃ a b c d : Int, cs = [.int .i64 a, .int .i64 b, .int .i64 c, .int .i64 d] := fun n cs x h => by
  have hl := struct_len undRi cRi h
  obtain ⟨s, e0, w0⟩ := read_field (i := 0) (ty := 3) (off := 0) undRi (by kernel_rfl) cInt (reads_int Try.underlying3) h
  obtain ⟨c, e1, w1⟩ := read_field (i := 1) (ty := 3) (off := 1) undRi (by kernel_rfl) cInt (reads_int Try.underlying3) h
  obtain ⟨i, e2, w2⟩ := read_field (i := 2) (ty := 3) (off := 2) undRi (by kernel_rfl) cInt (reads_int Try.underlying3) h
  obtain ⟨k, e3, w3⟩ := read_field (i := 3) (ty := 3) (off := 3) undRi (by kernel_rfl) cInt (reads_int Try.underlying3) h
  match cs, hl with
  | [v0, v1, v2, v3], _ =>
    simp at e0 e1 e2 e3
    subst e0 e1 e2 e3
    exact ⟨s, c, i, k, rfl⟩
theorem reads_wd {base : Nat} {sp : Nat → Bool} {held : Bool} : Reads enc W base sp held 2 fun cs => ∃ x : Int, cs = wcell x ∧ (-9223372036854775808 ≤ x ∧ x ≤ 9223372036854775807) := fun n cs x h => by
  obtain ⟨m, e, hw⟩ := reads_int Try.underlying2 n cs x h
  exact ⟨m, e, int_fits hw⟩
theorem reads_nd : Reads enc W 0 (fun _ => true) true 36 fun cs => ∃ (n : Nod) (aa : Option Addr) (ca : Nat) (wa : Option Addr) (cw : Nat), .agg cs.toArray = n.v aa ca wa cw ∧ n.Fits ∧ GrsAt W aa n.acl ∧ WrdsAt W wa n.words ∧ (wa = none → cw = 0) ∧ n.words.length ≤ cw := fun fu cs x h => by
  have hl := struct_len undNd cNd h
  obtain ⟨pa, e0, w0⟩ := read_field (i := 0) (ty := 9) (off := 0) undNd (by kernel_rfl) cStr (reads_string Try.underlying9) h
  obtain ⟨di, e1⟩ := read_field (i := 1) (ty := 4) (off := 1) undNd (by kernel_rfl) cBool (reads_bool Try.underlying4) h
  obtain ⟨la, e2, _⟩ := read_field (i := 2) (ty := 25) (off := 2) undNd (by kernel_rfl) cLab reads_lab h
  obtain ⟨gs, aa, ca, e3, hg, hgq, _, _⟩ := read_field (i := 3) (ty := 31) (off := 6) undNd (by kernel_rfl) cGrs (reads_rows (f := gcells) Try.underlying31 cGr reads_gr cGrs) h
  obtain ⟨r1, r2, r3, r4, e4⟩ := read_field (i := 4) (ty := 33) (off := 7) undNd (by kernel_rfl) cRi reads_ri h
  obtain ⟨ws, wa, cw, e5, hv, hvq, hno, hle⟩ := read_field (i := 5) (ty := 34) (off := 11) undNd (by kernel_rfl) cWds (reads_rows (f := wcell) Try.underlying34 cI64 reads_wd cWds) h
  obtain ⟨lb, e6, _⟩ := read_field (i := 6) (ty := 25) (off := 12) undNd (by kernel_rfl) cLab reads_lab h
  match cs, hl with
  | [v0, v1, v2, v3, v4, v5, v6, v7, v8, v9, v10, v11, v12, v13, v14, v15], _ =>
    simp [lcells] at e0 e1 e2 e3 e4 e5 e6
    obtain ⟨rfl, rfl, rfl, rfl⟩ := e2
    obtain ⟨rfl, rfl, rfl, rfl⟩ := e4
    obtain ⟨rfl, rfl, rfl, rfl⟩ := e6
    subst e0 e1 e3 e5
    exact ⟨⟨pa, di, la, gs, r1, r2, r3, r4, ws, lb⟩, aa, ca, wa, cw, rfl, ⟨w0, hgq, hvq⟩, RowAt.grs hg, RowAt.wrds hv, hno, hle⟩
theorem open_nd {r : Reach} {b0 : Nat} {v : Value} {d : DataW H} {p : List MemPlace} (hv : Value.okWide Try.prog W r b0 36 v) (h : DataW.Trod enc Try.prog W 0 (fun _ => true) true 36 v d p) :
    ∃ (n : Nod) (aa : Option Addr) (ca : Nat) (wa : Option Addr) (cw : Nat), v = n.v aa ca wa cw ∧ n.Fits ∧ GrsAt W aa n.acl ∧ WrdsAt W wa n.words ∧ (wa = none → cw = 0) ∧ n.words.length ≤ cw := by
  obtain ⟨cs, rfl, n, aa, ca, wa, cw, he, hf, hg, hw, hz, hc⟩ := open_struct undNd reads_nd hv h
  exact ⟨n, aa, ca, wa, cw, he, hf, hg, hw, hz, hc⟩
theorem open_rg {r : Reach} {b0 base : Nat} {sp : Nat → Bool} {held : Bool} {v : Value} {d : DataW H} {p : List MemPlace} (hv : Value.okWide Try.prog W r b0 33 v) (h : DataW.Trod enc Try.prog W base sp held 33 v d p) : ∃ x : Rg, v = x.v := by
  obtain ⟨cs, rfl, a, b, c, e, he⟩ := open_struct undRi reads_ri hv h
  exact ⟨⟨a, b, c, e⟩, by rw [he]⟩
end
end Go.Proofs.Ytajondkpdgiolaa
