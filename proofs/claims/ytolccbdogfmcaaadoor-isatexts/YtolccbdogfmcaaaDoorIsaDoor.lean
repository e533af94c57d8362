/-
  THE VARIABLES THAT package isa's Text AND Parse READ, AS THE LISTED VARIABLES AND THE WORLD's SHAPE GIVE THEM; a row's frame that keeps the shape and the sizes.
-/
import Derived.Test.YtolccbdogfmcaaaDoorRows
import Derived.Test.YtolccbdogfmcaaaDoorIsaOpen
import Derived.Test.YtolccbdogfmcaaaDoorIsaParseP
import Derived.LaidMore
import Derived.Shelf.Vars
import Derived.HandedShaped
import Derived.PinnedBridge
import Derived.Lay
import Derived.Lib.LaidTab
import Derived.Lib.SmallJoins
import Derived.Stop.Joined
import Derived.Stop.LaidErr
namespace Go.Proofs.YtolccbdogfmcaaaDoor
open Go.ChangeShapes Go.WideShapes Go.ChangeAt Go.RowKit Go.Joins
set_option maxRecDepth 8000
set_option linter.unusedVariables false
set_option linter.unusedSimpArgs false

theorem tab_datum : (Rows.laid_internal_strconv_uint64pow10 : DataW Unit) = Lib.tabData .u64 Lib.pow10Tab := by kernel_rfl
theorem tabN : Tryd.prog.globalNamed "internal/strconv.uint64pow10" = some 3 := by kernel_rfl
theorem tabT : (Tryd.prog.globals[3]?).map (·.type) = some 86 := by kernel_rfl
theorem tabU : Tryd.prog.underlying 86 = some (.array 20 59) := by kernel_rfl
theorem tabE : Tryd.prog.underlying 59 = some (.int .u64) := by kernel_rfl
theorem tabC : Tryd.prog.cellsOf 59 = 1 := by kernel_rfl
theorem tabS : Tryd.prog.cellsOf 86 = 20 := by kernel_rfl
theorem tab_head {rest : List (String × DataW Unit)} {W : World} (h : laidMet Tryd.prog (("internal/strconv.uint64pow10", Rows.laid_internal_strconv_uint64pow10) :: rest) W) : Tab W := by
  rw [tab_datum] at h
  exact Lib.tabIs_of_head tabN tabT tabU tabE tabC tabS h
/-- A table of texts, as a row lists it. -/
def strData {H : Type} (zs : List (List UInt8)) : DataW H := .agg (zs.map fun z => .lit (.string z))
theorem cells_of_strs {H : Type} {enc : TypeId × Value → H} {P : Program} {w : World} {base : Nat} {sp : Nat → Bool} {held : Bool} {fuel : Nat} {t e : TypeId} {n : Nat} {cs : List Value} {zs : List (List UInt8)} {p : List MemPlace}
    (ht : P.underlying t = some (.array n e)) (he : P.underlying e = some .string) (hce : P.cellsOf e = 1) (hct : P.cellsOf t = n)
    (h : DataW.trod enc P w base sp held fuel t cs = some (strData zs, p)) : cs = zs.map fun z => Value.string ⟨z.toArray⟩ := by
  cases fuel with
  | zero => simp [DataW.trod] at h
  | succ fuel =>
    simp only [DataW.trod, ht, hce, hct, Nat.mul_one] at h
    split at h
    · rename_i hl
      obtain ⟨xs, hm, hx⟩ := Option.map_eq_some_iff.1 h
      have hxs : xs.map (·.1) = zs.map fun z => (DataW.lit (.string z) : DataW H) := by
        have := congrArg Prod.fst hx
        simpa [strData] using this
      have hxl : xs.length = n := by simpa using Lib.mapM_length hm
      have hzl : zs.length = n := by
        have := congrArg List.length hxs
        simp at this
        omega
      apply List.ext_getElem?
      intro i
      by_cases hi : i < n
      · obtain ⟨b, hb, hf⟩ := Lib.mapM_at hm i i (by simp [hi])
        obtain ⟨z, hc, rfl, _⟩ := DataW.trod_string he hf
        have h1 : cs[i]? = some (.string z) := by
          have := congrArg (·[0]?) hc
          simpa [List.getElem?_take, List.getElem?_drop] using this
        have h2 : (xs.map (·.1))[i]? = some (DataW.lit (.string z.data.toList) : DataW H) := by simp [hb]
        rw [hxs] at h2
        simp only [List.getElem?_map, Option.map_eq_some_iff, DataW.lit.injEq, Lit.string.injEq] at h2
        obtain ⟨z', hz', e⟩ := h2
        rw [h1, List.getElem?_map, hz', e]
        simp
      · rw [List.getElem?_eq_none (by omega), List.getElem?_eq_none (by simp; omega)]
    · cases h
theorem cStrI : Tryd.prog.cellsOf 9 = 1 := by kernel_rfl
theorem name_datum : (Rows.laid_donjon_isa_names : DataW Unit) = strData opNames := by kernel_rfl
theorem nameN : Tryd.prog.globalNamed "donjon/isa.names" = some 0 := by kernel_rfl
theorem nameT : (Tryd.prog.globals[0]?).map (·.type) = some 40 := by kernel_rfl
theorem nameU : Tryd.prog.underlying 40 = some (.array 23 9) := by kernel_rfl
theorem nameS : Tryd.prog.cellsOf 40 = 23 := by kernel_rfl
theorem names_head {rest : List (String × DataW Unit)} {W : World} (h : laidMet Tryd.prog (("donjon/isa.names", Rows.laid_donjon_isa_names) :: rest) W) : ∀ v : Nat, v < 23 → W.cell? ⟨0, v, none⟩ = some (.string (opB (v : Int))) := by
  rw [name_datum] at h
  obtain ⟨ps, ⟨g', t', cs, fuel, p, q, hg', ht', hvar, hd, _, _⟩, _⟩ := h
  obtain rfl := Option.some.inj (nameN.symm.trans hg')
  obtain rfl := Option.some.inj (nameT.symm.trans ht')
  have hcs := cells_of_strs nameU Tryd.underlying9 cStrI nameS hd
  intro v h2
  have h3 := World.var?_cell nameN hvar v
  rw [h3, ← Array.getElem?_toList, hcs]
  exact nameCs_at v h2
theorem star : "*" ++ "errors.errorString" = "*errors.errorString" := by decide
/-- The one type of that name. -/
theorem rowE (u : TypeId) (h : Tryd.prog.typeName? 3 u = some "*errors.errorString") : u = 93 :=
  typeName_ptr_named (nm := "errors.errorString") (by rw [star]; kernel_rfl) (by kernel_rfl) (by decide) u (by rw [star]; exact h)
theorem gSyn : Tryd.prog.globalNamed "strconv.ErrSyntax" = some 1 := by kernel_rfl
theorem gRng : Tryd.prog.globalNamed "strconv.ErrRange" = some 2 := by kernel_rfl
theorem tSyn : (Tryd.prog.globals[1]?).map (·.type) = some 45 := by kernel_rfl
theorem tRng : (Tryd.prog.globals[2]?).map (·.type) = some 45 := by kernel_rfl
theorem cErr : Tryd.prog.cellsOf 95 = 1 := by kernel_rfl
theorem sentinel_cell {W : World} {n : String} {g : Nat} {a : Addr} (hg : Tryd.prog.globalNamed n = some g) (h : W.var? Tryd.prog n = some #[.iface 93 (.pointer (some a))]) :
    ∃ e, W.cell? ⟨g, 0, none⟩ = some e ∧ (e = .nilIface ∨ ∃ te pe, e = .iface te pe) := by
  have := World.var?_cell hg h 0
  exact ⟨_, by simpa using this, Or.inr ⟨_, _, rfl⟩⟩
theorem glob_size : Tryd.prog.globals.size = 9 := by kernel_rfl
abbrev laid8 : List (String × DataW Unit) := [("math/bits.deBruijn32tab", Rows.laid_math_bits_deBruijn32tab), ("math/bits.deBruijn64tab", Rows.laid_math_bits_deBruijn64tab), ("internal/strconv.uint64pow10", Rows.laid_internal_strconv_uint64pow10), ("unicode/utf8.acceptRanges", Rows.laid_unicode_utf8_acceptRanges), ("strconv.ErrRange", Rows.laid_strconv_ErrRange), ("strconv.ErrSyntax", Rows.laid_strconv_ErrSyntax), ("donjon/isa.names", Rows.laid_donjon_isa_names), ("unicode/utf8.first", Rows.laid_unicode_utf8_first)]
theorem vars_laid {W : World} (h : laidMetH Tryd.prog laid8 W) (hsh : W.ShapedOpen Tryd.prog) : Vars W := by
  rw [MakeChecks.laidMetH_plain _ _ _ (by kernel_rfl)] at h
  refine ⟨tab_head h.tail.tail, names_head h.tail.tail.tail.tail.tail.tail, ?_, ?_, ?_⟩
  · exact cell_of_shapedOpen_int hsh (t := 3) (zero := #[.int .i64 0]) (by rw [glob_size]; decide) (by kernel_rfl) (by kernel_rfl) (by kernel_rfl) (by kernel_rfl) Tryd.underlying3
  · obtain ⟨a, _, hv, _⟩ := laid_sentinel h.tail.tail.tail.tail.tail gSyn tSyn Tryd.underlying45 rowE Tryd.underlying93 Tryd.underlying95 rfl rfl Tryd.underlying9 cErr cStrI
    exact sentinel_cell gSyn hv
  · obtain ⟨a, _, hv, _⟩ := laid_sentinel h.tail.tail.tail.tail gRng tRng Tryd.underlying45 rowE Tryd.underlying93 Tryd.underlying95 rfl rfl Tryd.underlying9 cErr cStrI
    exact sentinel_cell gRng hv
variable {H : Type} {enc : TypeId × Value → H}
/-- The row's frame with listed variables, the world's shape and the sizes kept. -/
theorem returns_all {a : Assume} {C : Checked} {os : Os} {f : FuncId} {fn : Func} {s : ChangeSpec} {conds : List PathCond} {apart fresh handsOn again : Bool} {X : World → Array Value → Prop}
    (hX : ∀ (w w' : World) (args : Array Value), w.heap = w'.heap → X w args → X w' args)
    (own : ownKnob C.prog.godebug = none) (started : os.Started) (noInit : C.prog.inits.idxOf? f = none) (hfn : C.prog.funcs[f]? = some fn)
    (witness : ∃ (w : World) (tape : Tape) (i : Input), w.os = os ∧ (w.forCall tape i).Shaped C.prog ∧ i.vars = [] ∧ Input.okWide C.prog (w.forCall tape i) .any w.heap.size f i ∧
      ((s.pre enc C.prog fn conds apart (w.forCall tape i).memory i.args ∧ X (w.forCall tape i).memory i.args) ∧ sizedMet enc C.prog fn (OpenSpec.ofChange s) apart (w.forCall tape i).memory i.args) ∧ a.holds C.prog (lone (Frame.enter C.prog f i.args .normal) [] (w.forCall tape i)))
    (contract : ∀ (W : World) (base : Nat) (args : Array Value) (ds gs : List (DataW H)) (before : List MemPlace),
      (∀ (j : Nat) t v, fn.params[j]? = some t → args[j]? = some v → Value.okWide C.prog W .any base t v) →
      DataW.Whole enc C.prog fn.params.toList s.vars apart W args.toList ds gs before → X W args → W.ShapedOpen C.prog →
      (DataW.weightsEach C.prog (fn.params.toList ++ s.plain.varTypes C.prog) (ds ++ gs)).all (· ≤ reachBytes) = true →
      Calls C.prog f args W fun e W' => ∃ v, e = .returned v ∧ s.post enc C.prog fn apart fresh handsOn again W args v W') :
    ReturnsInHanded a C os f .any (fun w args => (s.pre enc C.prog fn conds apart w args ∧ X w args) ∧ sizedMet enc C.prog fn (OpenSpec.ofChange s) apart w args) (s.post enc C.prog fn apart fresh handsOn again) := by
  refine returnsInHanded_of_calls own started noInit witness ?_
  intro w tape i _ hsh _ hok hpre hholds
  obtain ⟨_, _, _, fn', hfn', _, _, _, _, hval⟩ := hok
  have e : fn' = fn := Option.some.inj (hfn'.symm.trans hfn)
  subst e
  obtain ⟨⟨⟨ds, gs, before, hw, hc⟩, hx⟩, hz⟩ := hpre
  have hw' := DataW.Whole.of_heap (w' := w.forCall tape i) (by rfl) hw
  refine (contract (w.forCall tape i) w.heap.size i.args ds gs before hval hw' (hX _ _ _ (by rfl) hx) hsh (hz.weights hw)).mono fun e W' ⟨v, he, hp⟩ => ?_
  subst he
  exact ChangeSpec.post_blind hp
end Go.Proofs.YtolccbdogfmcaaaDoor
