/-
  RULES AND MESSAGES THAT CAME IN, and how great their texts may be.
-/
import Derived.Test.YtjpabjmicaopcaaLabOpen
import Derived.Test.YtjpabjmicaopcaaMailBase
import Derived.SizedLaws
namespace Go.Proofs.Ytjpabjmicaopcaa
open Go.ChangeShapes Go.WideShapes Go.ChangeAt Go.RowKit
set_option maxRecDepth 8000
set_option linter.unusedVariables false
set_option linter.unusedSimpArgs false

section
variable {H : Type} {enc : TypeId × Value → H} {W : World} {base : Nat} {sp : Nat → Bool} {held : Bool}
/-- What a reading of a type tells of its cells, where what was read is of a size that may be. -/
def ReadsW (enc : TypeId × Value → H) (W : World) (base : Nat) (sp : Nat → Bool) (held : Bool) (t : TypeId) (p : List Value → Prop) : Prop := ∀ (n : Nat) (cs : List Value) (x : DataW H × List MemPlace), DataW.trod enc Try.prog W base sp held n t cs = some x → (∀ q ∈ x.1.weights Try.prog t, q ≤ reachBytes) → p cs
theorem Reads.w {t : TypeId} {p : List Value → Prop} (h : Reads enc W base sp held t p) : ReadsW enc W base sp held t p := fun n cs x hx _ => h n cs x hx
theorem readsW_string {t : TypeId} (ht : Try.prog.underlying t = some .string) : ReadsW enc W base sp held t fun cs => ∃ s : ByteArray, cs = [.string s] ∧ s.size ≤ 140737488355328 := fun n cs x h hw => by
  obtain ⟨s, rfl, hx, hs⟩ := DataW.trod_string ht h
  have h1 := hw s.data.toList.length (by rw [hx]; simp [DataW.weights])
  have h2 := reachBytes_lt
  refine ⟨s, rfl, ?_⟩
  have h3 : s.data.toList.length = s.size := by rw [Array.length_toList]; rfl
  omega
theorem read_fieldW {t ty : TypeId} {i off sz : Nat} {p : List Value → Prop} (ht : Try.prog.underlying t = some (.struct (Try.prog.fieldsOf t))) (hf : ((Try.prog.fieldsOf t)[i]?).map (fun f => (f.type, f.offset)) = some (ty, off)) (hc : Try.prog.cellsOf ty = sz) (hp : ReadsW enc W base sp held ty p) {n : Nat} {cs : List Value} {x : DataW H × List MemPlace} (h : DataW.trod enc Try.prog W base sp held n t cs = some x) (hw : ∀ q ∈ x.1.weights Try.prog t, q ≤ reachBytes) : p ((cs.drop off).take sz) := by
  obtain ⟨xs, m, _, hx, _, hlen, hg⟩ := DataW.trod_struct ht h
  cases hfi : (Try.prog.fieldsOf t)[i]? with
  | none => rw [hfi] at hf; cases hf
  | some f =>
    rw [hfi] at hf
    have e : (f.type, f.offset) = (ty, off) := by simpa using hf
    have e1 : f.type = ty := congrArg Prod.fst e
    have e2 : f.offset = off := congrArg Prod.snd e
    have hh := hg i f hfi
    have hi : i < xs.length := by
      have := (Array.getElem?_eq_some_iff.1 hfi).1
      omega
    rw [List.getElem?_eq_getElem hi, e1, e2, hc] at hh
    refine hp _ _ _ hh fun q hq => hw q ?_
    rw [hx]
    simp only [DataW.weights, ht]
    refine DataW.weights_mem_each (j := i) (t := ty) (d := xs[i].1) ?_ ?_ q hq
    · rw [List.getElem?_map, Array.getElem?_toList, hfi, ← e1]
      rfl
    · rw [List.getElem?_map, List.getElem?_eq_getElem hi]
      rfl
theorem reads_labM : Reads enc W base sp held 24 fun cs => ∃ l : Lab, cs = lab4 l := fun n cs x h => by
  obtain ⟨l, e, _⟩ := reads_lab n cs x h
  exact ⟨l, e⟩
theorem undMr : Try.prog.underlying 29 = some (.struct (Try.prog.fieldsOf 29)) := by kernel_rfl
theorem undMs : Try.prog.underlying 26 = some (.struct (Try.prog.fieldsOf 26)) := by kernel_rfl
theorem cMr : Try.prog.cellsOf 29 = 9 := by kernel_rfl
theorem cMs : Try.prog.cellsOf 26 = 11 := by kernel_rfl
theorem readsW_mr : ReadsW enc W base sp held 29 fun cs => ∃ r : MRul, cs = r.cs ∧ r.word.size ≤ 140737488355328 := fun fu cs x h hw => by
  have hl := struct_len undMr cMr h
  obtain ⟨a, e0⟩ := read_field (i := 0) (ty := 24) (off := 0) undMr (by kernel_rfl) cLab reads_labM h
  obtain ⟨b, e1⟩ := read_field (i := 1) (ty := 24) (off := 4) undMr (by kernel_rfl) cLab reads_labM h
  obtain ⟨s, e2, w2⟩ := read_fieldW (i := 2) (ty := 9) (off := 8) undMr (by kernel_rfl) cStr (readsW_string Try.underlying9) h hw
  match cs, hl with
  | [v0, v1, v2, v3, v4, v5, v6, v7, v8], _ =>
    simp [lab4] at e0 e1 e2
    obtain ⟨rfl, rfl, rfl, rfl⟩ := e0
    obtain ⟨rfl, rfl, rfl, rfl⟩ := e1
    subst e2
    exact ⟨⟨a, b, s⟩, rfl, w2⟩
def Msg.fit (m : Msg) : Prop := m.fr.size ≤ 140737488355328 ∧ m.rc.size ≤ 140737488355328 ∧ m.text.size ≤ 140737488355328
theorem readsW_msM : ReadsW enc W base sp held 26 fun cs => ∃ m : Msg, cs = m.cs ∧ m.fit := fun fu cs x h hw => by
  have hl := struct_len undMs cMs h
  obtain ⟨f, e0, w0⟩ := read_fieldW (i := 0) (ty := 9) (off := 0) undMs (by kernel_rfl) cStr (readsW_string Try.underlying9) h hw
  obtain ⟨la, e1⟩ := read_field (i := 1) (ty := 24) (off := 1) undMs (by kernel_rfl) cLab reads_labM h
  obtain ⟨t, e2, w2⟩ := read_fieldW (i := 2) (ty := 9) (off := 5) undMs (by kernel_rfl) cStr (readsW_string Try.underlying9) h hw
  obtain ⟨lb, e3⟩ := read_field (i := 3) (ty := 24) (off := 6) undMs (by kernel_rfl) cLab reads_labM h
  obtain ⟨x, e4, w4⟩ := read_fieldW (i := 4) (ty := 9) (off := 10) undMs (by kernel_rfl) cStr (readsW_string Try.underlying9) h hw
  match cs, hl with
  | [v0, v1, v2, v3, v4, v5, v6, v7, v8, v9, v10], _ =>
    simp [lab4] at e0 e1 e2 e3 e4
    obtain ⟨rfl, rfl, rfl, rfl⟩ := e1
    obtain ⟨rfl, rfl, rfl, rfl⟩ := e3
    subst e0 e2 e4
    exact ⟨⟨f, la, t, lb, x⟩, rfl, w0, w2, w4⟩
theorem open_structW {r : Reach} {b0 : Nat} {t : TypeId} {fs : Array Field} {v : Value} {d : DataW H} {p : List MemPlace} {q : List Value → Prop} (hs : Try.prog.underlying t = some (.struct fs)) (hq : ReadsW enc W base sp held t q)
    (hv : Value.okWide Try.prog W r b0 t v) (h : DataW.Trod enc Try.prog W base sp held t v d p) (hw : ∀ q ∈ d.weights Try.prog t, q ≤ reachBytes) : ∃ cs : List Value, v = .agg cs.toArray ∧ q cs := by
  obtain ⟨cs, rfl, hsz⟩ := okWide_struct hs hv
  obtain ⟨fuel, hf⟩ := h
  exact ⟨cs.toList, by simp, hq fuel cs.toList (d, p) hf hw⟩
theorem wAll {H : Type} {P : Program} {e : TypeId} {d : DataW H} {q : Nat} : ∀ {ds : List (DataW H)}, d ∈ ds → q ∈ d.weights P e → q ∈ DataW.weightsAll P e ds
  | x :: r, hd, hq => by
    simp only [DataW.weightsAll, List.mem_append]
    rcases List.mem_cons.1 hd with rfl | hd
    · exact .inl hq
    · exact .inr (wAll hd hq)
theorem open_rowsW {α : Type} {t e : TypeId} {sz : Nat} {f : α → List Value} {q : α → Prop} (hb : 0 < Try.prog.bytesOf e) (ht : Try.prog.underlying t = some (.slice e)) (hc : Try.prog.cellsOf e = sz) (hp : ReadsW enc W 0 (fun _ => true) true e fun cs => ∃ g, cs = f g ∧ q g) {n : Nat} {a : Option Addr} {len cap : Nat} {x : DataW H × List MemPlace} (h : DataW.trod enc Try.prog W 0 (fun _ => true) true n t [.slice a len cap] = some x) (hw : ∀ q ∈ x.1.weights Try.prog t, q ≤ reachBytes) :
    ∃ l : List α, l.length = len ∧ RowAt sz f W a l ∧ (∀ g ∈ l, q g) ∧ len ≤ 140737488355328 := by
  rcases Go.Deep.open_slice ht h with ⟨hcs, _⟩ | ⟨ad, l, c, m, n', Dd, Pl, hcs, _, hl, hm, hmm, hx0, hx⟩
  · simp at hcs
    obtain ⟨rfl, rfl, rfl⟩ := hcs
    exact ⟨[], rfl, fun j g hg => by simp at hg, by simp, by omega⟩
  · simp at hcs
    obtain ⟨rfl, rfl, rfl⟩ := hcs
    simp only [if_true] at hmm
    have each : ∀ i, i < len → ∃ g : α, (∀ k, k < sz → W.cell? (ad.add (i * sz + k)) = (f g)[k]?) ∧ q g := fun i hi => by
      have hwD : ∀ q ∈ (Dd i).weights Try.prog e, q ≤ reachBytes := fun q hq => hw q (by
        rw [hx0]
        simp only [DataW.weights, ht]
        exact List.mem_cons_of_mem _ (List.mem_append_left _ (wAll (List.mem_map.2 ⟨i, List.mem_range.2 hi, rfl⟩) hq)))
      obtain ⟨cs', h2, h3⟩ := hx i (by omega)
      rw [hc] at h2
      obtain ⟨_, hlen, hcell⟩ := World.cells?_some h2
      obtain ⟨g, rfl, hq⟩ := hp _ _ _ h3 hwD
      refine ⟨g, fun k hk => ?_, hq⟩
      have e0 := hcell k (by omega)
      rw [Go.Deep.add_add] at e0
      rw [e0]
    have h9 := hw _ (by rw [hx0]; simp only [DataW.weights, ht]; exact List.mem_cons_self ..)
    rw [List.length_map, List.length_range] at h9
    have h8 := Nat.le_trans (Nat.le_mul_of_pos_right _ hb) h9
    have h7 := reachBytes_lt
    obtain ⟨L, hL, hpp⟩ := pick_all each
    refine ⟨L, hL, fun j g hg => ⟨ad, rfl, (hpp j g hg).1⟩, fun g hg => ?_, by omega⟩
    obtain ⟨j, hj, rfl⟩ := List.getElem_of_mem hg
    exact (hpp j L[j] (List.getElem?_eq_getElem hj)).2
theorem weights_at {ts : List TypeId} {ds : List (DataW H)} (hsz : (DataW.weightsEach Try.prog ts ds).all (· ≤ reachBytes) = true) {j : Nat} {t : TypeId} {d : DataW H} (ht : ts[j]? = some t) (hd : ds[j]? = some d) : ∀ q ∈ d.weights Try.prog t, q ≤ reachBytes := fun q hq => by
  have := List.all_eq_true.1 hsz _ (DataW.weights_mem_each ht hd q hq)
  simpa using this
end
end Go.Proofs.Ytjpabjmicaopcaa
