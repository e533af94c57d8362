/-
  PROGRAMS AND BEGINNINGS THAT COME IN.
-/
import Derived.Test.YtinibccphecdfaaWCpuOpen
import Derived.Test.YtinibccphecdfaaWCpuPcs
namespace Go.Proofs.Ytinibccphecdfaa
open Go.ChangeShapes Go.WideShapes Go.ChangeAt Go.RowKit
set_option maxRecDepth 8000
set_option linter.unusedVariables false
set_option linter.unusedSimpArgs false

/-- A row within a struct. -/
theorem reads_rowsC {α : Type} [Inhabited α] {H : Type} {enc : TypeId × Value → H} {W : World} {t e : TypeId} {sz : Nat} {f : α → List Value} {q : α → Prop} (ht : Try.prog.underlying t = some (.slice e)) (hc : Try.prog.cellsOf e = sz) (hp : Reads enc W 0 (fun _ => true) true e fun cs => ∃ g, cs = f g ∧ q g) :
    Reads enc W 0 (fun _ => true) true t fun cs => ∃ (l : List α) (a : Option Addr) (cap : Nat), cs = [.slice a l.length cap] ∧ RowAt sz f W a l ∧ (∀ g ∈ l, q g) ∧ l.length ≤ 9223372036854775807 := fun n cs x h => by
  have h' := h
  rcases Go.Deep.open_slice ht h with ⟨hcs, _⟩ | ⟨ad, l, c', m, n', Dd, Pl, hcs, _⟩
  · subst hcs
    obtain ⟨L, hL, h1, h2, h3, h4, h5⟩ := open_rows (f := f) (q := q) ht hc hp h'
    exact ⟨L, _, _, by rw [hL], h1, h2, by omega⟩
  · subst hcs
    obtain ⟨L, hL, h1, h2, h3, h4, h5⟩ := open_rows (f := f) (q := q) ht hc hp h'
    exact ⟨L, _, _, by rw [hL], h1, h2, by omega⟩
theorem cI64C : Try.prog.cellsOf 2 = 1 := by kernel_rfl
theorem cBoolC : Try.prog.cellsOf 4 = 1 := by kernel_rfl
theorem undWd : Try.prog.underlying 83 = some (.struct (Try.prog.fieldsOf 83)) := by kernel_rfl
theorem cWdX : Try.prog.cellsOf 83 = 8 := by kernel_rfl
theorem undPc : Try.prog.underlying 79 = some (.struct (Try.prog.fieldsOf 79)) := by kernel_rfl
theorem cPc : Try.prog.cellsOf 79 = 7 := by kernel_rfl
theorem cWdsX : Try.prog.cellsOf 77 = 1 := by kernel_rfl
theorem undSt : Try.prog.underlying 28 = some (.struct (Try.prog.fieldsOf 28)) := by kernel_rfl
theorem cStX : Try.prog.cellsOf 28 = 17 := by kernel_rfl
theorem cP4 : Try.prog.cellsOf 25 = 12 := by kernel_rfl
theorem undFr : Try.prog.underlying 84 = some (.struct (Try.prog.fieldsOf 84)) := by kernel_rfl
theorem cFrX : Try.prog.cellsOf 84 = 3 := by kernel_rfl
theorem cFrs : Try.prog.cellsOf 26 = 1 := by kernel_rfl
section
variable {H : Type} {enc : TypeId × Value → H} {W : World}
theorem reads_wdX {base : Nat} {sp : Nat → Bool} {held : Bool} : Reads enc W base sp held 83 fun cs => ∃ x : WdX, cs = wd8 x ∧ fit64 x.w := fun n cs x h => by
  have hl := struct_len undWd cWdX h
  obtain ⟨k, e0, w0⟩ := read_field (i := 0) (ty := 3) (off := 0) undWd (by kernel_rfl) cIntI (reads_int Try.underlying3) h
  obtain ⟨i, e1, w1⟩ := read_field (i := 1) (ty := 64) (off := 1) undWd (by kernel_rfl) cIns reads_ins h
  obtain ⟨p, e2⟩ := read_field (i := 2) (ty := 24) (off := 4) undWd (by kernel_rfl) cPtr reads_ptr h
  obtain ⟨y, e3, w3⟩ := read_field (i := 3) (ty := 2) (off := 7) undWd (by kernel_rfl) cI64C (reads_int Try.underlying2) h
  match cs, hl with
  | [v0, v1, v2, v3, v4, v5, v6, v7], _ =>
    simp at e0 e1 e2 e3
    obtain ⟨rfl, rfl, rfl⟩ := e1
    obtain ⟨rfl, rfl, rfl⟩ := e2
    subst e0 e3
    exact ⟨⟨k, i, p, y⟩, rfl, int_fits w3⟩
theorem reads_pcX : Reads enc W 0 (fun _ => true) true 79 fun cs => ∃ x : PP, cs = x.cs ∧ x.At W := fun n cs x h => by
  have hl := struct_len undPc cPc h
  haveI : Inhabited WdX := ⟨⟨0, ⟨0, 0, 0⟩, ⟨0, 0, 0⟩, 0⟩⟩
  obtain ⟨b, e0⟩ := read_field (i := 0) (ty := 4) (off := 0) undPc (by kernel_rfl) cBoolC (reads_bool Try.underlying4) h
  obtain ⟨k, e1, w1⟩ := read_field (i := 1) (ty := 3) (off := 1) undPc (by kernel_rfl) cIntI (reads_int Try.underlying3) h
  obtain ⟨g, e2⟩ := read_field (i := 2) (ty := 55) (off := 2) undPc (by kernel_rfl) cRgs reads_rgs h
  obtain ⟨ws, wa, wc, e3, hr, hq, hn⟩ := read_field (i := 3) (ty := 77) (off := 6) undPc (by kernel_rfl) cWdsX (reads_rowsC (f := wd8) (q := fun x => fit64 x.w) Try.underlying77 cWdX reads_wdX) h
  match cs, hl with
  | [v0, v1, v2, v3, v4, v5, v6], _ =>
    simp at e0 e1 e2 e3
    obtain ⟨rfl, rfl, rfl, rfl⟩ := e2
    subst e0 e1 e3
    exact ⟨⟨⟨b, k, g, ws⟩, wa, wc⟩, rfl, ⟨hr, hq, hn⟩⟩
theorem open_pcs {n : Nat} {a : Option Addr} {len cap : Nat} {x : DataW H × List MemPlace} (h : DataW.trod enc Try.prog W 0 (fun _ => true) true n 22 [.slice a len cap] = some x) : ∃ l : List PP, l.length = len ∧ RowP W a l := by
  haveI : Inhabited PP := ⟨⟨⟨false, 0, ⟨0, 0, 0, 0⟩, []⟩, none, 0⟩⟩
  obtain ⟨l, hl, hc, hf, _, h1, h2⟩ := open_rows (f := PP.cs) (q := PP.At W) Try.underlying22 cPc reads_pcX h
  exact ⟨l, hl, ⟨hc, hf, by omega⟩⟩
theorem reads_frX {base : Nat} {sp : Nat → Bool} {held : Bool} : Reads enc W base sp held 84 fun cs => ∃ i : Fr, cs = frc i ∧ True := fun n cs x h => by
  have hl := struct_len undFr cFrX h
  obtain ⟨s, e0, w0⟩ := read_field (i := 0) (ty := 3) (off := 0) undFr (by kernel_rfl) cIntI (reads_int Try.underlying3) h
  obtain ⟨c, e1, w1⟩ := read_field (i := 1) (ty := 3) (off := 1) undFr (by kernel_rfl) cIntI (reads_int Try.underlying3) h
  obtain ⟨i, e2, w2⟩ := read_field (i := 2) (ty := 3) (off := 2) undFr (by kernel_rfl) cIntI (reads_int Try.underlying3) h
  match cs, hl with
  | [v0, v1, v2], _ =>
    simp at e0 e1 e2
    subst e0 e1 e2
    exact ⟨⟨s, c, i⟩, rfl, trivial⟩
theorem reads_p4 {base : Nat} {sp : Nat → Bool} {held : Bool} : Reads enc W base sp held 25 fun cs => ∃ l : List Ptr, cs = l.flatMap ptr3 ∧ l.length = 4 := fun n cs x h => by
  obtain ⟨xs, m, _, _, hl, hn, hg⟩ := DataW.trod_array Try.underlying25 h
  rw [cP4] at hl
  rw [cPtr] at hg
  have hx : ∀ i, i < 4 → ∃ p : Ptr, (cs.drop (i * 3)).take 3 = ptr3 p := fun i hi => by
    have := hg i hi
    rw [List.getElem?_eq_getElem (by omega)] at this
    exact reads_ptr _ _ _ this
  obtain ⟨p0, e0⟩ := hx 0 (by omega)
  obtain ⟨p1, e1⟩ := hx 1 (by omega)
  obtain ⟨p2, e2⟩ := hx 2 (by omega)
  obtain ⟨p3, e3⟩ := hx 3 (by omega)
  match cs, hl with
  | [v0, v1, v2, v3, v4, v5, v6, v7, v8, v9, v10, v11], _ =>
    simp at e0 e1 e2 e3
    obtain ⟨rfl, rfl, rfl⟩ := e0
    obtain ⟨rfl, rfl, rfl⟩ := e1
    obtain ⟨rfl, rfl, rfl⟩ := e2
    obtain ⟨rfl, rfl, rfl⟩ := e3
    exact ⟨[p0, p1, p2, p3], rfl, rfl⟩
theorem reads_stX : Reads enc W 0 (fun _ => true) true 28 fun cs => ∃ (c : Cp) (a : Option Addr) (cap : Nat), cs = bgCs c (.slice a c.st.length cap) ∧ BegX W c a := fun n cs x h => by
  have hl := struct_len undSt cStX h
  haveI : Inhabited Fr := ⟨⟨0, 0, 0⟩⟩
  obtain ⟨s, e0, w0⟩ := read_field (i := 0) (ty := 3) (off := 0) undSt (by kernel_rfl) cIntI (reads_int Try.underlying3) h
  obtain ⟨o, e1, w1⟩ := read_field (i := 1) (ty := 3) (off := 1) undSt (by kernel_rfl) cIntI (reads_int Try.underlying3) h
  obtain ⟨r, e2, w2⟩ := read_field (i := 2) (ty := 3) (off := 2) undSt (by kernel_rfl) cIntI (reads_int Try.underlying3) h
  obtain ⟨y, e3, w3⟩ := read_field (i := 3) (ty := 2) (off := 3) undSt (by kernel_rfl) cI64C (reads_int Try.underlying2) h
  obtain ⟨ps, e4, w4⟩ := read_field (i := 4) (ty := 25) (off := 4) undSt (by kernel_rfl) cP4 reads_p4 h
  obtain ⟨st, wa, wc, e5, hr, hq, hn⟩ := read_field (i := 5) (ty := 26) (off := 16) undSt (by kernel_rfl) cFrs (reads_rowsC (f := frc) (q := fun _ => True) Try.underlying26 cFrX reads_frX) h
  refine ⟨⟨s, o, r, y, ps, st, false⟩, wa, wc, ?_, ⟨w4, int_fits w3, hr, hn⟩⟩
  match cs, hl with
  | [v0, v1, v2, v3, v4, v5, v6, v7, v8, v9, v10, v11, v12, v13, v14, v15, v16], _ =>
    simp at e0 e1 e2 e3 e4 e5
    subst e0 e1 e2 e3 e5
    unfold bgCs
    rw [← e4]
    rfl
theorem open_stX {r : Reach} {b0 : Nat} {v : Value} {d : DataW H} {p : List MemPlace}
    (hv : Value.okWide Try.prog W r b0 28 v) (h : DataW.Trod enc Try.prog W 0 (fun _ => true) true 28 v d p) : ∃ (c : Cp) (a : Option Addr) (cap : Nat), v = .agg (bgCs c (.slice a c.st.length cap)).toArray ∧ BegX W c a := by
  obtain ⟨cs, rfl, c, a, cap, rfl, hb⟩ := open_structI undSt reads_stX hv h
  exact ⟨c, a, cap, rfl, hb⟩
end
end Go.Proofs.Ytinibccphecdfaa
