/-
  A LABEL, AND A CONFIG, AS A PARAMETER.
-/
import Derived.Test.YtagpjihhnnmhnaaUserOpen
import Derived.Lib.SmallJoins
namespace Go.Proofs.Ytagpjihhnnmhnaa
open Go.ChangeShapes Go.WideShapes Go.ChangeAt Go.RowKit Go.Joins
set_option linter.unusedVariables false
set_option linter.unusedSimpArgs false

theorem lab_fields : ∃ f0 f1 f2 f3 : Field, Try.prog.underlying 35 = some (.struct #[f0, f1, f2, f3]) ∧ Go.Deep.oneCellFields Try.prog #[f0, f1, f2, f3] = true ∧ f0.type = 3 ∧ f1.type = 3 ∧ f2.type = 3 ∧ f3.type = 3 := by
  have h : ((Try.prog.fieldsOf 35).map (·.type)) = #[3, 3, 3, 3] := by kernel_rfl
  have ho : Go.Deep.oneCellFields Try.prog (Try.prog.fieldsOf 35) = true := by kernel_rfl
  have hu := und
  generalize Try.prog.fieldsOf 35 = fs at h ho hu
  obtain ⟨l⟩ := fs
  simp only [List.map_toArray, Array.mk.injEq] at h
  match l, h with
  | [f0, f1, f2, f3], h =>
    simp only [List.map_cons, List.map_nil, List.cons.injEq, and_true] at h
    exact ⟨f0, f1, f2, f3, hu, ho, h.1, h.2.1, h.2.2.1, h.2.2.2⟩
theorem open_lab {H : Type} {enc : TypeId × Value → H} {W : World} {r : Reach} {b0 base : Nat} {sp : Nat → Bool} {held : Bool} {v : Value} {d : DataW H} {p : List MemPlace}
    (hv : Value.okWide Try.prog W r b0 35 v) (h : DataW.Trod enc Try.prog W base sp held 35 v d p) : ∃ l : Lab, v = l.v ∧ l.fits := by
  obtain ⟨f0, f1, f2, f3, hu, ho, t0, t1, t2, t3⟩ := lab_fields
  obtain ⟨c0, c1, c2, c3, y0, y1, y2, y3, m, rfl, rfl, rfl, k0, k1, k2, k3⟩ := open_agg4 hu ho cLab hv h
  rw [t0] at k0
  rw [t1] at k1
  rw [t2] at k2
  rw [t3] at k3
  obtain ⟨a0, e0, rfl, w0⟩ := DataW.trod_int Try.underlying3 k0
  obtain ⟨a1, e1, rfl, w1⟩ := DataW.trod_int Try.underlying3 k1
  obtain ⟨a2, e2, rfl, w2⟩ := DataW.trod_int Try.underlying3 k2
  obtain ⟨a3, e3, rfl, w3⟩ := DataW.trod_int Try.underlying3 k3
  simp at e0 e1 e2 e3
  subst e0 e1 e2 e3
  exact ⟨⟨a0, a1, a2, a3⟩, rfl, int_fits w0, int_fits w1, int_fits w2, int_fits w3⟩
theorem undC : Try.prog.underlying 26 = some (.struct (Try.prog.fieldsOf 26)) := by kernel_rfl
theorem cCfg : Try.prog.cellsOf 26 = 3 := by kernel_rfl
theorem cfg_fields : ∃ f0 f1 f2 : Field, Try.prog.underlying 26 = some (.struct #[f0, f1, f2]) ∧ Go.Deep.oneCellFields Try.prog #[f0, f1, f2] = true ∧ f0.type = 22 ∧ f1.type = 23 ∧ f2.type = 24 := by
  have h : ((Try.prog.fieldsOf 26).map (·.type)) = #[22, 23, 24] := by kernel_rfl
  have ho : Go.Deep.oneCellFields Try.prog (Try.prog.fieldsOf 26) = true := by kernel_rfl
  have hu := undC
  generalize Try.prog.fieldsOf 26 = fs at h ho hu
  obtain ⟨l⟩ := fs
  simp only [List.map_toArray, Array.mk.injEq] at h
  match l, h with
  | [f0, f1, f2], h =>
    simp only [List.map_cons, List.map_nil, List.cons.injEq, and_true] at h
    exact ⟨f0, f1, f2, hu, ho, h.1, h.2.1, h.2.2⟩
theorem slice_val {H : Type} {enc : TypeId × Value → H} {W : World} {n : Nat} {t e : TypeId} {c : Value} {x : DataW H × List MemPlace} (ht : Try.prog.underlying t = some (.slice e)) (h : DataW.trod enc Try.prog W 0 (fun _ => true) true n t [c] = some x) : ∃ a len cap, c = .slice a len cap := by
  rcases Go.Deep.open_slice ht h with ⟨hcs, _⟩ | ⟨ad, l, c', m, n', Dd, Pl, hcs, _⟩
  · simp at hcs; exact ⟨_, _, _, hcs⟩
  · simp at hcs; exact ⟨_, _, _, hcs⟩
theorem open_cfg {H : Type} {enc : TypeId × Value → H} {W : World} {r : Reach} {b0 : Nat} {v : Value} {d : DataW H} {p : List MemPlace}
    (hv : Value.okWide Try.prog W r b0 26 v) (h : DataW.Trod enc Try.prog W 0 (fun _ => true) true 26 v d p) :
    ∃ (at_ au ar : Option Addr) (nt ct nu cu nr cr : Nat) (ts : List Lab) (us : List Usr) (rs : List Rul), v = .agg #[.slice at_ nt ct, .slice au nu cu, .slice ar nr cr] ∧ ts.length = nt ∧ us.length = nu ∧ rs.length = nr ∧ LabsAt W at_ ts ∧ UsrsAt W au us ∧ RulsAt W ar rs ∧ (∀ u ∈ us, u.name.size ≤ 9223372036854775807) ∧ ∀ r ∈ rs, r.word.size ≤ 9223372036854775807 := by
  obtain ⟨f0, f1, f2, hu, ho, t0, t1, t2⟩ := cfg_fields
  obtain ⟨c0, c1, c2, y0, y1, y2, m, rfl, rfl, rfl, k0, k1, k2⟩ := open_agg3 hu ho cCfg hv h
  rw [t0] at k0
  rw [t1] at k1
  rw [t2] at k2
  obtain ⟨a0, n0, p0, rfl⟩ := slice_val Try.underlying22 k0
  obtain ⟨a1, n1, p1, rfl⟩ := slice_val Try.underlying23 k1
  obtain ⟨a2, n2, p2, rfl⟩ := slice_val Try.underlying24 k2
  obtain ⟨ts, h1, h2, _⟩ := open_labs k0
  obtain ⟨us, h3, h4, h5⟩ := open_usrs k1
  obtain ⟨rs, h6, h7, h8⟩ := open_ruls k2
  exact ⟨a0, a1, a2, n0, p0, n1, p1, n2, p2, ts, us, rs, rfl, h1, h3, h6, h2, h4, h7, fun u hu => (h5 u hu).1, h8⟩
end Go.Proofs.Ytagpjihhnnmhnaa
