/-
  NODES, LABELS AND WAYS TO MAKE NODES THAT CAME IN, in rows.
-/
import Derived.Test.YtajondkpdgiolaaNodeOpenD
import Derived.Test.YtajondkpdgiolaaTreeRows
import Derived.Test.YtajondkpdgiolaaTreeGrown
namespace Go.Proofs.Ytajondkpdgiolaa
open Go.ChangeShapes Go.WideShapes Go.ChangeAt Go.RowKit
set_option maxRecDepth 8000
set_option linter.unusedVariables false
set_option linter.unusedSimpArgs false

def icell (x : Int) : List Value := [.int .i64 x]
/-- A way to make a node, and where its rows lie. -/
structure PM where
  m : Mk
  pa : Option Addr
  pc : Nat
  aa : Option Addr
  ca : Nat
  wa : Option Addr
  cw : Nat
def PM.cs (x : PM) : List Value := [.slice x.pa x.m.path.length x.pc, .bool x.m.dir, .int .i64 x.m.up.s, .int .i64 x.m.up.c, .int .i64 x.m.up.i, .int .i64 x.m.up.k, .slice x.aa x.m.acl.length x.ca, .int .i64 x.m.rings.a, .int .i64 x.m.rings.b, .int .i64 x.m.rings.c, .int .i64 x.m.rings.g, .slice x.wa x.m.words.length x.cw, .int .i64 x.m.by_.s, .int .i64 x.m.by_.c, .int .i64 x.m.by_.i, .int .i64 x.m.by_.k]
structure PM.At (W : World) (x : PM) : Prop where
  p : RowAt 1 icell W x.pa x.m.path
  g : GrsAt W x.aa x.m.acl
  w : WrdsAt W x.wa x.m.words
  f : ∀ q ∈ x.m.path, -9223372036854775808 ≤ q ∧ q ≤ 9223372036854775807
theorem PM.At.below {W W' : World} {x : PM} (h : x.At W) (b : Below W.heap.size W W') : x.At W' := ⟨h.p.below (fun _ => rfl) b, h.g.below b, h.w.below b, h.f⟩
structure RowM (W : World) (a : Option Addr) (l : List PM) : Prop where
  r : RowAt 16 PM.cs W a l
  p : ∀ x ∈ l, x.At W
theorem RowM.below {W W' : World} {a : Option Addr} {l : List PM} (h : RowM W a l) (b : Below W.heap.size W W') : RowM W' a l := ⟨h.r.below (fun _ => rfl) b, fun x hx => (h.p x hx).below b⟩
section
variable {H : Type} {enc : TypeId × Value → H} {W : World}
theorem undMk : Try.prog.underlying 58 = some (.struct (Try.prog.fieldsOf 58)) := by kernel_rfl
theorem cMk : Try.prog.cellsOf 58 = 16 := by kernel_rfl
theorem cInts : Try.prog.cellsOf 56 = 1 := by kernel_rfl
theorem reads_ic {base : Nat} {sp : Nat → Bool} {held : Bool} : Reads enc W base sp held 3 fun cs => ∃ x : Int, cs = icell x ∧ (-9223372036854775808 ≤ x ∧ x ≤ 9223372036854775807) := fun n cs x h => by
  obtain ⟨m, e, hw⟩ := reads_int Try.underlying3 n cs x h
  exact ⟨m, e, int_fits hw⟩
theorem reads_mk : Reads enc W 0 (fun _ => true) true 58 fun cs => ∃ x : PM, cs = x.cs ∧ x.At W := fun fu cs x h => by
  have hl := struct_len undMk cMk h
  obtain ⟨ps, pa, pc, e0, hp, hpq, _, _⟩ := read_field (i := 0) (ty := 56) (off := 0) undMk (by kernel_rfl) cInts (reads_rows (f := icell) Try.underlying56 cInt reads_ic cInts) h
  obtain ⟨di, e1⟩ := read_field (i := 1) (ty := 4) (off := 1) undMk (by kernel_rfl) cBool (reads_bool Try.underlying4) h
  obtain ⟨la, e2, _⟩ := read_field (i := 2) (ty := 25) (off := 2) undMk (by kernel_rfl) cLab reads_lab h
  obtain ⟨gs, aa, ca, e3, hg, hgq, _, _⟩ := read_field (i := 3) (ty := 31) (off := 6) undMk (by kernel_rfl) cGrs (reads_rows (f := gcells) Try.underlying31 cGr reads_gr cGrs) h
  obtain ⟨r1, r2, r3, r4, e4⟩ := read_field (i := 4) (ty := 33) (off := 7) undMk (by kernel_rfl) cRi reads_ri h
  obtain ⟨ws, wa, cw, e5, hv, hvq, hno, hle⟩ := read_field (i := 5) (ty := 34) (off := 11) undMk (by kernel_rfl) cWds (reads_rows (f := wcell) Try.underlying34 cI64 reads_wd cWds) h
  obtain ⟨lb, e6, _⟩ := read_field (i := 6) (ty := 25) (off := 12) undMk (by kernel_rfl) cLab reads_lab h
  match cs, hl with
  | [v0, v1, v2, v3, v4, v5, v6, v7, v8, v9, v10, v11, v12, v13, v14, v15], _ =>
    simp [lcells] at e0 e1 e2 e3 e4 e5 e6
    obtain ⟨rfl, rfl, rfl, rfl⟩ := e2
    obtain ⟨rfl, rfl, rfl, rfl⟩ := e4
    obtain ⟨rfl, rfl, rfl, rfl⟩ := e6
    subst e0 e1 e3 e5
    exact ⟨⟨⟨ps, di, la, gs, ⟨r1, r2, r3, r4⟩, ws, lb⟩, pa, pc, aa, ca, wa, cw⟩, rfl, ⟨hp, RowAt.grs hg, RowAt.wrds hv, hpq⟩⟩
theorem open_mks {n : Nat} {a : Option Addr} {len cap : Nat} {x : DataW H × List MemPlace} (h : DataW.trod enc Try.prog W 0 (fun _ => true) true n 23 [.slice a len cap] = some x) : ∃ l, l.length = len ∧ RowM W a l := by
  obtain ⟨l, hl, hc, hf, _⟩ := open_rows (f := PM.cs) (q := PM.At W) Try.underlying23 cMk reads_mk h
  exact ⟨l, hl, ⟨hc, hf⟩⟩
theorem reads_pn : Reads enc W 0 (fun _ => true) true 36 fun cs => ∃ x : PN, cs = x.cs ∧ (x.At W ∧ x.n.Fits) := fun fu cs x h => by
  obtain ⟨n, aa, ca, wa, cw, he, hf, hg, hw, _, _⟩ := reads_nd fu cs x h
  refine ⟨⟨n, aa, ca, wa, cw⟩, ?_, ⟨hg, hw⟩, hf⟩
  injection he with he
  have := congrArg Array.toList he
  simpa [PN.cs, nclT] using this
theorem open_nds {n : Nat} {a : Option Addr} {len cap : Nat} {x : DataW H × List MemPlace} (h : DataW.trod enc Try.prog W 0 (fun _ => true) true n 27 [.slice a len cap] = some x) : ∃ l : List PN, l.length = len ∧ RowN W a l ∧ ∀ x ∈ l, x.n.Fits := by
  obtain ⟨l, hl, hc, hf, _⟩ := open_rows (f := PN.cs) (q := fun x => x.At W ∧ x.n.Fits) Try.underlying27 cNd reads_pn h
  exact ⟨l, hl, ⟨hc, fun x hx => (hf x hx).1⟩, fun x hx => (hf x hx).2⟩
theorem open_lbs {n : Nat} {a : Option Addr} {len cap : Nat} {x : DataW H × List MemPlace} (h : DataW.trod enc Try.prog W 0 (fun _ => true) true n 22 [.slice a len cap] = some x) : ∃ l : List Lab, l.length = len ∧ RowAt 4 lcells W a l := by
  obtain ⟨l, hl, hc, hf, _⟩ := open_rows (f := lcells) (q := Lab.fits) Try.underlying22 cLab reads_lab h
  exact ⟨l, hl, hc⟩
theorem undLb : Try.prog.underlying 25 = some (.struct (Try.prog.fieldsOf 25)) := by kernel_rfl
theorem open_lb {r : Reach} {b0 : Nat} {v : Value} {d : DataW H} {p : List MemPlace} (hv : Value.okWide Try.prog W r b0 25 v) (h : DataW.Trod enc Try.prog W 0 (fun _ => true) true 25 v d p) : ∃ l : Lab, v = l.v := by
  obtain ⟨cs, rfl, l, rfl, _⟩ := open_struct undLb reads_lab hv h
  exact ⟨l, rfl⟩
theorem open_is {n : Nat} {a : Option Addr} {len cap : Nat} {x : DataW H × List MemPlace} (h : DataW.trod enc Try.prog W 0 (fun _ => true) true n 56 [.slice a len cap] = some x) : ∃ l : List Int, l.length = len ∧ RowAt 1 icell W a l ∧ ∀ q ∈ l, -9223372036854775808 ≤ q ∧ q ≤ 9223372036854775807 := by
  obtain ⟨l, hl, hc, hf, _⟩ := open_rows (f := icell) (q := fun q => -9223372036854775808 ≤ q ∧ q ≤ 9223372036854775807) Try.underlying56 cInt reads_ic h
  exact ⟨l, hl, hc, hf⟩
end
end Go.Proofs.Ytajondkpdgiolaa
