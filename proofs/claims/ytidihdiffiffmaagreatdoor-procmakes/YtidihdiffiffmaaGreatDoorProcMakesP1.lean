/-
  PART 1 of what ProcMakes leans on: Common Opens Names LPathBase LPathParts LPathPure LPathOf LPathName LPathSplit LPathShelf LPathFns Door IsaPure Labs IsaBits Grew Rws Blk Whole Held IsaRef IsaOk Rgs LRing Ieee Near Base More ToInt CpuPure CpuFacts LoadAny Mids CpuMem Ref CpuRef CpuRef2 CpuRef3 Build1 CpuLaw CpuLaw2 Was.
-/
import Derived.Test.YtidihdiffiffmaaGreatDoorProg
import Derived.WalkKit
import Derived.WalkLawsBesides
import Derived.Laws.AppendOwn
import Derived.Laws.OwnMore
import Derived.KernelRfl
import Derived.ProofKit
import Derived.Below
import Derived.Test.YtidihdiffiffmaaGreatDoorRows
import Derived.OpenShut
import Derived.ChangeSame
import Derived.ChangeSlices
import Derived.SizedLaws
import Derived.Deep.Slices
import Derived.Deep.Strs
import Derived.Lib.Strings
import Derived.Lib.Bytealg
import Derived.Laws.RangeAny
import Derived.Deep.Cut
import Derived.Deep.CutRange
import Derived.Lib.ConvBytes
import Derived.Lib.SplitLaws
import Derived.Lib.LastIndexByte
import Derived.Shelf.Lays
import Derived.Shelf.Strings.Prefix
import Derived.Shelf.Strings.LastIndex
import Derived.Shelf.Strings.Split
import Derived.LaidMore
import Derived.Shelf.Vars
import Derived.HandedShaped
import Derived.PinnedBridge
import Derived.Lay
import Derived.Lib.ItoaLen
import Derived.Deep.RegionHeld
import Derived.Lib.AppendStr
import Derived.Deep.MidRow
import Derived.Deep.CutBlock
import GoSem.Core.Float
import Derived.Laws.FloatBits
import Derived.Deep.Draws
import Derived.Great.BuildSlice
namespace Go.Proofs.YtidihdiffiffmaaGreatDoor
theorem zgA {α : Type} {xs : List α} {i : Nat} : xs.toArray[i]? = xs[i]? := List.getElem?_toArray
theorem zgB {α : Type} {a : α} {l : List α} : (a :: l)[0]? = some a := List.getElem?_cons_zero
theorem zgC {α : Type} {a : α} {l : List α} {i : Nat} : (a :: l)[i + 1]? = l[i]? := List.getElem?_cons_succ
theorem zsA {α : Type} {xs : List α} {i : Nat} {a : α} : xs.toArray.setIfInBounds i a = (xs.set i a).toArray := List.setIfInBounds_toArray xs i a
theorem zsB {α : Type} {a b : α} {l : List α} : (a :: l).set 0 b = b :: l := List.set_cons_zero
theorem zsC {α : Type} {a b : α} {l : List α} {i : Nat} : (a :: l).set (i + 1) b = a :: l.set i b := List.set_cons_succ
section
variable {P : Program} {ops : Array Oper} {Q : Exit → Act → World → Prop} {md : Region.Mode} {S : World → Prop} {oi : Oper} {v : Value} {fuel : Nat} {listed listed' : Array Bool} {a a' : Act} {w : World}
theorem tkA (i : Nat) (h : wpAnyH P md ops Q S fuel listed' a' w) (hi : ops[i]? = some oi := by simp only [zgA, zgB, zgC]; rfl) (hs : Region.noSelect ops = true := by kernel_rfl) (hf : Region.free md ops listed i = true := by kernel_rfl) (hr : (Region.ready md ops listed).contains i = true := by kernel_rfl)
    (hQ : ∀ c a w, Q (.panic c) (a.put oi.dst v) w → Q (.panic c) a w := by exact fun _ _ _ h => h) (hw : Region.wanted oi (yielded ops a.tmps) = true := by rfl) (hy : ∀ w, S w → (execOp a.eval oi).run P w = .ok (.value v) w := by intro w hSw; (try dsimp only at hSw); go_simp; try with_reducible rfl)
    (hS : S w := by assumption) (hl : listed.setIfInBounds i true = listed' := by (try simp only [zsA, zsB, zsC]); rfl) (ha : a.put oi.dst v = a' := by (try simp only [Act.put, zsA, zsB, zsC]); rfl) : wpAnyH P md ops Q S (fuel + 1) listed a w := by
  subst hl ha
  exact wpAnyH_take hi hs hf hr hQ (.inl ⟨hw, hy⟩) hS h
theorem tkB (i : Nat) (hi : ops[i]? = some oi := by simp only [zgA, zgB, zgC]; rfl) (hs : Region.noSelect ops = true := by kernel_rfl) (hf : Region.free md ops listed i = true := by kernel_rfl) (hr : (Region.ready md ops listed).contains i = true := by kernel_rfl)
    (hQ : ∀ c a w, Q (.panic c) (a.put oi.dst v) w → Q (.panic c) a w := by exact fun _ _ _ h => h) (y : YieldsIf P ops S oi v a)
    (hS : S w := by assumption) (hl : listed.setIfInBounds i true = listed' := by (try simp only [zsA, zsB, zsC]); rfl) (ha : a.put oi.dst v = a' := by (try simp only [Act.put, zsA, zsB, zsC]); rfl) (h : wpAnyH P md ops Q S fuel listed' a' w) : wpAnyH P md ops Q S (fuel + 1) listed a w := by
  subst hl ha
  exact wpAnyH_take hi hs hf hr hQ y hS h
theorem tkR {rs : List Nat} (h : AllReadyH P md ops Q S fuel listed a w rs) (hr : Region.ready md ops listed = rs := by kernel_rfl) (hne : rs ≠ [] := by simp) : wpAnyH P md ops Q S (fuel + 1) listed a w := wpAnyH_ready hr hne h
theorem tkC {i : Nat} {rs : List Nat} (h : ∀ K' : Act → World → Prop, Shut (∀ a w, S w → (S w → wpAnyH P md ops Q S fuel (listed.setIfInBounds i true) a w) → K' a w) → if Region.wanted oi (yielded ops a.tmps) = true then Oper.wp P oi a w K' Q else K' (a.put oi.dst undef) w)
    (hs : AllReadyH P md ops Q S fuel listed a w rs) (ho : ops[i]? = some oi := by simp only [zgA, zgB, zgC]; rfl) : AllReadyH P md ops Q S fuel listed a w (i :: rs) := AllReadyH.cons ho h hs
end
end Go.Proofs.YtidihdiffiffmaaGreatDoor
namespace Go.Proofs.YtidihdiffiffmaaGreatDoor
open Go.RowKit
set_option maxRecDepth 8000
set_option linter.unusedSimpArgs false
set_option linter.unusedVariables false
theorem Below.then {w W W' : World} (h : Below w.heap.size w W) (k : Below W.heap.size W W') : Below w.heap.size w W' := h.trans (k.mono h.size)
def Aside (p : Prop) : Prop := p
theorem Aside.out {p : Prop} (h : Aside p) : p := h
theorem add_at (g j : Nat) : (⟨g, 0, none⟩ : Addr).add j = ⟨g, j, none⟩ := by
 simp [Addr.add]
 exact fun h => h.symm
theorem add_off (y : Addr) (m i : Nat) (h : i ≠ 0) : y.add (m + i) = ⟨(y.add m).block, (y.add m).off + i, none⟩ := by
 unfold Addr.add
 by_cases hm : m = 0
 ·simp [hm, h]
 ·rw [if_neg (by omega), if_neg hm]
  simp [Nat.add_assoc]
section
variable {ops : Array Oper} {rest : List Oper} {o : Oper} {a : Act} {w : World} {Q : Exit → Act → World → Prop}
theorem wpList_value {P : Program} (hg : o.guard = none) {v : Value} {w' : World} (hx : (execOp a.eval o).run P w = .ok (.value v) w') (h : wpList P ops Q rest (a.put o.dst v) w') : wpList P ops Q (o :: rest) a w :=
 wpList_plain hg fun _ hK => by
  unfold Oper.wp
  rw [hx]
  exact hK _ _ h
end
end Go.Proofs.YtidihdiffiffmaaGreatDoor
namespace Go.Proofs.YtidihdiffiffmaaGreatDoor
open Go.ChangeShapes Go.WideShapes Go.ChangeAt Go.RowKit
set_option maxRecDepth 8000
set_option linter.unusedVariables false
set_option linter.unusedSimpArgs false
theorem own : ownKnob Tryz.prog.godebug = none := by kernel_rfl
theorem laidOut : laidOutB Tryz.prog = true := by kernel_rfl
theorem int_fits {n : Int} (h : (Lit.int .i64 n).wf = true) : -9223372036854775808 ≤ n ∧ n ≤ 9223372036854775807 := by
 simpa [Lit.wf, IntKind.min, IntKind.max, IntKind.bits, IntKind.signed] using h
section
variable {H : Type} {enc : TypeId × Value → H} {W : World} {base : Nat} {sp : Nat → Bool} {held : Bool}
def Reads (enc : TypeId × Value → H) (W : World) (base : Nat) (sp : Nat → Bool) (held : Bool) (t : TypeId) (p : List Value → Prop) : Prop := ∀ (n : Nat) (cs : List Value) (x : DataW H × List MemPlace), DataW.trod enc Tryz.prog W base sp held n t cs = some x → p cs
theorem reads_int {t : TypeId} {k : IntKind} (ht : Tryz.prog.underlying t = some (.int k)) : Reads enc W base sp held t fun cs => ∃ n, cs = [.int k n] ∧ (Lit.int k n).wf = true := fun n cs x h => by
 obtain ⟨m, rfl, _, hw⟩ := DataW.trod_int ht h
 exact ⟨m, rfl, hw⟩
theorem reads_bool {t : TypeId} (ht : Tryz.prog.underlying t = some .bool) : Reads enc W base sp held t fun cs => ∃ b, cs = [.bool b] := fun n cs x h => by
 obtain ⟨b, rfl, _⟩ := DataW.trod_bool ht h
 exact ⟨b, rfl⟩
theorem reads_string {t : TypeId} (ht : Tryz.prog.underlying t = some .string) : Reads enc W base sp held t fun cs => ∃ s : ByteArray, cs = [.string s] ∧ s.size ≤ 9223372036854775807 := fun n cs x h => by
 obtain ⟨s, rfl, _, hs⟩ := DataW.trod_string ht h
 exact ⟨s, rfl, by simpa [maxLen] using hs⟩
theorem read_field {t ty : TypeId} {i off sz : Nat} {p : List Value → Prop} (ht : Tryz.prog.underlying t = some (.struct (Tryz.prog.fieldsOf t))) (hf : ((Tryz.prog.fieldsOf t)[i]?).map (fun f => (f.type, f.offset)) = some (ty, off)) (hc : Tryz.prog.cellsOf ty = sz) (hp : Reads enc W base sp held ty p) {n : Nat} {cs : List Value} {x : DataW H × List MemPlace} (h : DataW.trod enc Tryz.prog W base sp held n t cs = some x) : p ((cs.drop off).take sz) := by
 obtain ⟨xs, m, _, _, _, hlen, hg⟩ := DataW.trod_struct ht h
 cases hfi : (Tryz.prog.fieldsOf t)[i]? with
 | none => rw [hfi] at hf; cases hf
 | some f =>
  rw [hfi] at hf
  have e : (f.type, f.offset) = (ty, off) := by simpa using hf
  have e1 : f.type = ty := congrArg Prod.fst e
  have e2 : f.offset = off := congrArg Prod.snd e
  have hh := hg i f hfi
  have hi : i < xs.length := by
   have := (Array.getElem?_eq_some_iff.1 hfi).1
   omega
  rw [List.getElem?_eq_getElem hi, e1, e2, hc] at hh
  exact hp _ _ _ hh
theorem struct_len {t : TypeId} {sz : Nat} (ht : Tryz.prog.underlying t = some (.struct (Tryz.prog.fieldsOf t))) (hc : Tryz.prog.cellsOf t = sz) {n : Nat} {cs : List Value} {x : DataW H × List MemPlace} (h : DataW.trod enc Tryz.prog W base sp held n t cs = some x) : cs.length = sz := by
 obtain ⟨xs, m, _, _, hl, _⟩ := DataW.trod_struct ht h
 rw [hl, hc]
theorem pick_all {α : Type} {len : Nat} {p : Nat → α → Prop} (h : ∀ i, i < len → ∃ g, p i g) : ∃ l : List α, l.length = len ∧ ∀ j g, l[j]? = some g → p j g := by
 by_cases h0 : len = 0
 ·subst h0
  exact ⟨[], rfl, fun j g q => by cases q⟩
 haveI : Inhabited α := ⟨(h 0 (by omega)).choose⟩
 have h' : ∀ i, ∃ g, i < len → p i g := fun i => by
  by_cases hi : i < len
  ·obtain ⟨g, hg⟩ := h i hi; exact ⟨g, fun _ => hg⟩
  ·exact ⟨default, fun k => absurd k hi⟩
 obtain ⟨f, hf⟩ := Classical.axiomOfChoice h'
 refine ⟨(List.range len).map f, by simp, fun j g hg => ?_⟩
 have hj : j < len := by
  have := (List.getElem?_eq_some_iff.1 hg).1
  simpa using this
 simp [List.getElem?_range hj] at hg
 subst hg
 exact hf j hj
theorem open_rows {α : Type} {t e : TypeId} {sz : Nat} {f : α → List Value} {q : α → Prop} (ht : Tryz.prog.underlying t = some (.slice e)) (hc : Tryz.prog.cellsOf e = sz) (hp : Reads enc W 0 (fun _ => true) true e fun cs => ∃ g, cs = f g ∧ q g) {n : Nat} {a : Option Addr} {len cap : Nat} {x : DataW H × List MemPlace} (h : DataW.trod enc Tryz.prog W 0 (fun _ => true) true n t [.slice a len cap] = some x) :
    ∃ l : List α, l.length = len ∧ (∀ j g, l[j]? = some g → ∃ y, a = some y ∧ (∀ i, i < sz → W.cell? (y.add (j * sz + i)) = (f g)[i]?)) ∧ (∀ g ∈ l, q g) ∧ (a = none → cap = 0) ∧ len ≤ cap ∧ cap ≤ 9223372036854775807 := by
 rcases Go.Deep.open_slice ht h with ⟨hcs, _⟩ | ⟨ad, l, c, m, n', Dd, Pl, hcs, _, hl, hm, hmm, _, hx⟩
 ·simp at hcs
  obtain ⟨rfl, rfl, rfl⟩ := hcs
  exact ⟨[], rfl, fun j g hg => by simp at hg, by simp, fun _ => rfl, Nat.le_refl _, by omega⟩
 ·simp at hcs
  obtain ⟨rfl, rfl, rfl⟩ := hcs
  simp only [if_true] at hmm
  have each : ∀ i, i < len → ∃ g : α, (∀ k, k < sz → W.cell? (ad.add (i * sz + k)) = (f g)[k]?) ∧ q g := fun i hi => by
   obtain ⟨cs', h2, h3⟩ := hx i (by omega)
   rw [hc] at h2
   obtain ⟨_, hlen, hcell⟩ := World.cells?_some h2
   obtain ⟨g, rfl, hq⟩ := hp _ _ _ h3
   refine ⟨g, fun k hk => ?_, hq⟩
   have e0 := hcell k (by omega)
   rw [Go.Deep.add_add] at e0
   rw [e0]
  obtain ⟨L, hL, hpp⟩ := pick_all each
  refine ⟨L, hL, fun j g hg => ⟨ad, rfl, (hpp j g hg).1⟩, fun g hg => ?_, fun h => (by cases h), hl, by simpa [maxLen] using hm⟩
  obtain ⟨j, hj, rfl⟩ := List.getElem_of_mem hg
  exact (hpp j L[j] (List.getElem?_eq_getElem hj)).2
end
end Go.Proofs.YtidihdiffiffmaaGreatDoor
namespace Go.Proofs.YtidihdiffiffmaaGreatDoor
open Go.RowKit
set_option maxRecDepth 8000
set_option linter.unusedSimpArgs false
set_option linter.unusedVariables false
def eqs (a b : ByteArray) : Bool := a.toList == b.toList
theorem toL (a : ByteArray) : a.toList = a.data.toList := Lib.toList_data a
theorem eqs_iff {a b : ByteArray} : eqs a b = true ↔ a = b := by
 unfold eqs
 rw [toL, toL]
 simp only [beq_iff_eq]
 exact ⟨fun h => by cases a; cases b; simpa using h, fun h => by rw [h]⟩
theorem eqs_self (a : ByteArray) : eqs a a = true := eqs_iff.2 rfl
theorem eqs_ne {a b : ByteArray} (h : a ≠ b) : eqs a b = false := by
 cases he : eqs a b
 ·rfl
 ·exact absurd (eqs_iff.1 he) h
def okB (c : UInt8) : Bool := (decide (97 ≤ c.toNat) && decide (c.toNat ≤ 122)) || (decide (48 ≤ c.toNat) && decide (c.toNat ≤ 57))
def name (u : ByteArray) : Bool := decide (1 ≤ u.size) && (decide (u.size ≤ 12) && u.data.toList.all okB)
theorem all_drop {u : ByteArray} {i : Nat} (h : i < u.size) : (u.data.toList.drop i).all okB = (okB (u[i]'h) && (u.data.toList.drop (i + 1)).all okB) := by
 have hi : i < u.data.toList.length := by rw [Array.length_toList]; exact h
 rw [List.drop_eq_getElem_cons hi, List.all_cons]
 rfl
set_option maxHeartbeats 2000000 in
theorem rname_any (u : ByteArray) (hu : u.size ≤ 9223372036854775807) (w : World) :
    Calls Tryz.prog 114 #[.string u] w fun e w' => e = .returned (.bool (name u)) ∧ w' = w := by
 obtain ⟨b, hb⟩ : ∃ b, name u = b := ⟨_, rfl⟩
 rw [hb]
 have hb0 : Aside (b = (decide (1 ≤ u.size) && (decide (u.size ≤ 12) && (u.data.toList.drop 0).all okB))) := by rw [Aside, ← hb]; rfl
 clear hb
 go_enter Tryz.func114, Tryz.ntmps114
 go_wp2
 go_loopw [3] (fun t wr => ∃ i : Nat, i ≤ u.size ∧ t = .int .i64 (i : Int) ∧ wr = w ∧ Aside (b = (decide (1 ≤ u.size) && (decide (u.size ≤ 12) && (u.data.toList.drop i).all okB)))) (fun t _ => u.size - (Go.RowKit.intOf t).toNat)
 case atStart => exact ⟨0, by omega, rfl, rfl, hb0⟩
 case round =>
  obtain ⟨i, hi, rfl, rfl, hall⟩ := hrel
  by_cases hlt : i < u.size
  ·have hd := all_drop hlt
   obtain ⟨k, hk⟩ : ∃ k : Nat, (u[i]'hlt).toNat = k := ⟨_, rfl⟩
   rw [okB, hk] at hd
   by_cases hok : (97 ≤ k ∧ k ≤ 122) ∨ (48 ≤ k ∧ k ≤ 57)
   ·have hn : Aside (b = (decide (1 ≤ u.size) && (decide (u.size ≤ 12) && (u.data.toList.drop (i + 1)).all okB))) := by
      refine hall.out.trans ?_
      rw [hd]
      rcases hok with ⟨h, h'⟩ | ⟨h, h'⟩ <;> simp [h, h']
    clear hall hd
    rcases hok with ⟨h3, h4⟩ | ⟨h3, h4⟩
    ·go_wp2
     exact ⟨⟨i + 1, by omega, by simp, trivial, hn⟩, by simp [Go.RowKit.intOf]; omega⟩
    ·go_wp2
     exact ⟨⟨i + 1, by omega, by simp, trivial, hn⟩, by simp [Go.RowKit.intOf]; omega⟩
   ·obtain rfl : b = false := by
      refine hall.out.trans ?_
      rw [hd]
      rw [Bool.and_eq_false_iff]
      right
      rw [Bool.and_eq_false_iff]
      right
      rw [Bool.and_eq_false_iff]
      left
      simp only [Bool.or_eq_false_iff, Bool.and_eq_false_iff, decide_eq_false_iff_not]
      omega
    clear hall hd hb0
    by_cases h3 : k < 97
    ·by_cases h4 : k < 48
     ·go_wp2
      go_ret
      exact ⟨rfl, rfl⟩
     ·have h5 : 57 < k := by omega
      go_wp2
      go_ret
      exact ⟨rfl, rfl⟩
    ·have h5 : 122 < k := by omega
     go_wp2
     go_ret
     exact ⟨rfl, rfl⟩
  ·have he : Aside (b = (decide (1 ≤ u.size) && decide (u.size ≤ 12))) := by
     refine hall.out.trans ?_
     rw [List.drop_eq_nil_of_le (by rw [Array.length_toList]; show u.size ≤ i; omega)]
     simp
   clear hall hb0
   by_cases h1 : 1 ≤ u.size
   ·by_cases h2 : u.size ≤ 12
    ·obtain rfl : b = true := by rw [he.out]; simp [h1, h2]
     go_wp2
     go_ret
     exact ⟨by simp; omega, rfl⟩
    ·obtain rfl : b = false := by rw [he.out]; simp [h2]
     go_wp2
     go_ret
     exact ⟨by simp; omega, rfl⟩
   ·obtain rfl : b = false := by rw [he.out]; simp [h1]
    go_wp2
    go_ret
    exact ⟨by simp; try omega, rfl⟩
theorem below_iter (w : World) (s : ByteArray) (pos : Nat) : Below w.heap.size w (w.iter s pos) := (Below.refl _ _).alloc (Nat.le_refl _) _
set_option maxHeartbeats 2000000 in
theorem name_any (u : ByteArray) (hu : u.size ≤ 9223372036854775807) (w : World) :
    Calls Tryz.prog 106 #[.string u] w fun e w' => e = .returned (.bool (name u)) ∧ Below w.heap.size w w' := by
 obtain ⟨b, hb⟩ : ∃ b, name u = b := ⟨_, rfl⟩
 rw [hb]
 by_cases h1 : u.size < 1
 ·obtain rfl : b = false := by rw [← hb, name]; simp; omega
  clear hb
  as_aux_lemma =>
   go_enter Tryz.func106, Tryz.ntmps106
   go_wp2
   go_ret
   exact ⟨rfl, Below.refl _ _⟩
 by_cases h12 : 12 < u.size
 ·obtain rfl : b = false := by rw [← hb, name]; simp; omega
  clear hb
  as_aux_lemma =>
   go_enter Tryz.func106, Tryz.ntmps106
   go_wp2
   go_ret
   exact ⟨rfl, Below.refl _ _⟩
 have hb0 : Aside (b = (u.data.toList.drop 0).all okB) := by
  rw [Aside, ← hb, name, List.drop_zero]
  simp [show 1 ≤ u.size by omega, show u.size ≤ 12 by omega]
 clear hb
 go_enter Tryz.func106, Tryz.ntmps106
 go_wp2
 go_loopw [2] (fun t w' => ∃ pos : Nat, pos ≤ u.size ∧ w' = w.iter u pos ∧ t = .bool false ∧ Aside (b = (u.data.toList.drop pos).all okB)) (fun _ w' => u.size - w'.iterPos w.heap.size)
 case atStart => exact ⟨0, by omega, rfl, rfl, hb0⟩
 case round =>
  obtain ⟨pos, hpos, rfl, rfl, hall⟩ := hrel
  have hB := below_iter w u
  by_cases hlt : pos < u.size
  ·have hd := all_drop hlt
   by_cases hasc : (u[pos]'hlt).toNat < 128
   ·have hnx : ∀ ty, (Instr.next (.pointer (some ⟨w.heap.size, 0, none⟩)) true ty).run Tryz.prog (w.iter u pos) = _ := fun ty => run_next_ascii w u pos ty hlt hasc
    obtain ⟨k, hk⟩ : ∃ k : Nat, (u[pos]'hlt).toNat = k := ⟨_, rfl⟩
    rw [okB, hk] at hd
    simp only [hk] at hnx
    clear hasc
    by_cases hok : (97 ≤ k ∧ k ≤ 122) ∨ (48 ≤ k ∧ k ≤ 57)
    ·have hn : Aside (b = (u.data.toList.drop (pos + 1)).all okB) := by
       refine hall.out.trans ?_
       rw [hd]
       rcases hok with ⟨h, h'⟩ | ⟨h, h'⟩ <;> simp [h, h']
     clear hall hd hk
     rcases hok with ⟨h3, h4⟩ | ⟨h3, h4⟩
     ·as_aux_lemma =>
        go_wp2
        go_roundw
        case rel => exact ⟨pos + 1, by omega, rfl, rfl, hn⟩
        case measure => simp; omega
     ·as_aux_lemma =>
        go_wp2
        go_roundw
        case rel => exact ⟨pos + 1, by omega, rfl, rfl, hn⟩
        case measure => simp; omega
    ·obtain rfl : b = false := by
       refine hall.out.trans ?_
       rw [hd, Bool.and_eq_false_iff]
       left
       simp only [Bool.or_eq_false_iff, Bool.and_eq_false_iff, decide_eq_false_iff_not]
       omega
     clear hall hd hb0 hk
     by_cases h3 : k < 97
     ·by_cases h4 : k < 48
      ·as_aux_lemma =>
         go_wp2
         go_ret
         exact ⟨rfl, hB _⟩
      ·have h5 : 57 < k := by omega
       as_aux_lemma =>
        go_wp2
        go_ret
        exact ⟨rfl, hB _⟩
     ·have h5 : 122 < k := by omega
      as_aux_lemma =>
       go_wp2
       go_ret
       exact ⟨rfl, hB _⟩
   ·have hnx : ∀ ty, (Instr.next (.pointer (some ⟨w.heap.size, 0, none⟩)) true ty).run Tryz.prog (w.iter u pos) = _ := fun ty => run_next_any w u pos ty hlt
    have hhi := (decode_high u pos hlt (by omega)).1
    obtain ⟨k, hk⟩ : ∃ k : Nat, (Utf8.decode u pos).1 = k := ⟨_, rfl⟩
    obtain ⟨wd, hwd⟩ : ∃ k : Nat, (Utf8.decode u pos).2 = k := ⟨_, rfl⟩
    rw [hk] at hhi
    simp only [hk, hwd] at hnx
    obtain rfl : b = false := by
     refine hall.out.trans ?_
     rw [hd, Bool.and_eq_false_iff]
     left
     simp only [okB, Bool.or_eq_false_iff, Bool.and_eq_false_iff, decide_eq_false_iff_not]
     omega
    clear hall hd hb0 hk hwd hasc
    have h5 : 122 < k := by omega
    have h6 : ¬ k < 97 := by omega
    have h7 : ¬ k < 48 := by omega
    have h8 : 57 < k := by omega
    clear hhi
    as_aux_lemma =>
     go_wp2
     go_ret
     exact ⟨rfl, hB _⟩
  ·have hnx : ∀ ty, (Instr.next (.pointer (some ⟨w.heap.size, 0, none⟩)) true ty).run Tryz.prog (w.iter u pos) = _ := fun ty => run_next_end w u pos ty hlt
   obtain rfl : b = true := by
    refine hall.out.trans ?_
    rw [List.drop_eq_nil_of_le (by rw [Array.length_toList]; show u.size ≤ pos; omega)]
    rfl
   clear hall hb0
   as_aux_lemma =>
    go_wp2
    go_ret
    exact ⟨rfl, hB _⟩
end Go.Proofs.YtidihdiffiffmaaGreatDoor
namespace Go.Proofs.YtidihdiffiffmaaGreatDoor
open Go.RowKit
set_option maxRecDepth 8000
set_option linter.unusedSimpArgs false
def slashTo (u : ByteArray) : Nat → Nat
 | 0 => 0
 | i + 1 => if u.data.toList.getD i 0 = 47 then i else slashTo u i
theorem slashTo_le (u : ByteArray) : ∀ i, slashTo u i ≤ i
 | 0 => Nat.le_refl _
 | i + 1 => by
  unfold slashTo
  split
  ·omega
  ·have := slashTo_le u i; omega
theorem byte_at {u : ByteArray} {i : Nat} (h : i < u.size) : u.data.toList.getD i 0 = u[i]'h := by
 have hi : i < u.data.toList.length := by rw [Array.length_toList]; exact h
 rw [List.getD_eq_getElem?_getD, List.getElem?_eq_getElem hi]
 rfl
set_option maxHeartbeats 1000000 in
theorem slash_any (u : ByteArray) (hu : u.size ≤ 9223372036854775806) (w : World) :
    Calls Tryz.prog 84 #[.string u] w fun e w' => e = .returned (.int .i64 (slashTo u u.size : Nat)) ∧ w' = w := by
 go_enter Tryz.func84, Tryz.ntmps84
 go_wp2
 go_loopw [3, 4] (fun t3 t4 wr => ∃ i : Nat, i ≤ u.size ∧ t4 = .int .i64 (i : Int) ∧ t3 = .int .i64 (slashTo u i : Nat) ∧ wr = w) (fun _ t4 _ => u.size - (Go.RowKit.intOf t4).toNat)
 case atStart => exact ⟨0, by omega, rfl, rfl, rfl⟩
 case round =>
  obtain ⟨i, hi, rfl, rfl, rfl⟩ := hrel
  by_cases hlt : i < u.size
  ·have hb := byte_at hlt
   obtain ⟨k, hk⟩ : ∃ k : Nat, (u[i]'hlt).toNat = k := ⟨_, rfl⟩
   have hs : slashTo u (i + 1) = if k = 47 then i else slashTo u i := by
    show (if u.data.toList.getD i 0 = 47 then i else slashTo u i) = _
    rw [hb]
    by_cases h : k = 47
    ·rw [if_pos h, if_pos (by apply UInt8.toNat_inj.1; rw [hk, h]; rfl)]
    ·rw [if_neg h, if_neg (fun e => h (by rw [← hk, e]; rfl))]
   clear hb
   by_cases h47 : k = 47
   ·rw [if_pos h47] at hs
    subst h47
    go_wp2
    exact ⟨⟨i + 1, by omega, by simp, by rw [hs], by simp⟩, by simp [Go.RowKit.intOf]; omega⟩
   ·rw [if_neg h47] at hs
    have h2 : ((k : Int) == 47) = false := by simp; omega
    go_wp2
    exact ⟨⟨i + 1, by omega, by simp, by rw [hs], by simp⟩, by simp [Go.RowKit.intOf]; omega⟩
  ·obtain rfl : i = u.size := by omega
   go_wp2
   go_ret
   exact ⟨rfl, rfl⟩
def parentOf (u : ByteArray) : ByteArray := if u.size < 2 then ⟨#[]⟩ else if slashTo u u.size = 0 then ⟨#[47]⟩ else u.extract 0 (slashTo u u.size)
def lastOf (u : ByteArray) : ByteArray := if u.size < 2 then ⟨#[]⟩ else u.extract (slashTo u u.size + 1) u.size
set_option maxHeartbeats 1000000 in
theorem rparent_any (u : ByteArray) (hu : u.size ≤ 1000000) (w : World) :
    Calls Tryz.prog 47 #[.string u] w fun e w' => e = .returned (.string (parentOf u)) ∧ w' = w := by
 have hs := slashTo_le u u.size
 have cs := slash_any u (by omega) w
 unfold parentOf
 obtain ⟨k, hk⟩ : ∃ k, slashTo u u.size = k := ⟨_, rfl⟩
 rw [hk] at hs cs ⊢
 by_cases h2 : u.size < 2
 ·rw [if_pos h2]
  go_enter Tryz.func47, Tryz.ntmps47
  go_wp2
  go_ret
  exact ⟨rfl, rfl⟩
 ·rw [if_neg h2]
  by_cases h0 : k = 0
  ·rw [if_pos h0]
   subst h0
   go_enter Tryz.func47, Tryz.ntmps47
   go_wp2_with (go_at_call 84; refine cs.mono ?_; rintro e w' ⟨rfl, rfl⟩)
   go_ret
   exact ⟨rfl, rfl⟩
  ·rw [if_neg h0]
   have h1 : ((k : Int) == 0) = false := by simp; omega
   go_enter Tryz.func47, Tryz.ntmps47
   go_wp2_with (go_at_call 84; refine cs.mono ?_; rintro e w' ⟨rfl, rfl⟩)
   go_ret
   exact ⟨rfl, rfl⟩
def slashS : ByteArray := ⟨#[47]⟩
def joinOf (p n : ByteArray) : ByteArray := if eqs p slashS = true then p ++ n else p ++ slashS ++ n
theorem eqs_lit {u : ByteArray} (b : Bool) (h : eqs u slashS = b) : (u.toList == [47]) = b := by
 have : slashS.toList = [47] := by rw [toL]; rfl
 unfold eqs at h
 rw [this] at h
 exact h
set_option maxHeartbeats 1000000 in
theorem rjoin_any (p n : ByteArray) (hp : p.size ≤ 1000000) (hn : n.size ≤ 1000000) (w : World) :
    Calls Tryz.prog 88 #[.string p, .string n] w fun e w' => e = .returned (.string (joinOf p n)) ∧ w' = w := by
 have b1 : ¬ 9223372036854775807 < p.size + n.size := by omega
 have b2 : ¬ 9223372036854775807 < p.size + 1 := by omega
 have b3 : ¬ 9223372036854775807 < p.size + 1 + n.size := by omega
 unfold joinOf
 cases h : eqs p slashS
 ·have hl := eqs_lit false h
  have hl2 : ¬ p.toList = [47] := by simpa using hl
  rw [if_neg (by simp)]
  go_enter Tryz.func88, Tryz.ntmps88
  go_wp2
  go_ret
  exact ⟨rfl, rfl⟩
 ·have hl := eqs_lit true h
  have hl2 : p.toList = [47] := by simpa using hl
  rw [if_pos rfl]
  go_enter Tryz.func88, Tryz.ntmps88
  go_wp2
  go_ret
  exact ⟨rfl, rfl⟩
end Go.Proofs.YtidihdiffiffmaaGreatDoor
namespace Go.Proofs.YtidihdiffiffmaaGreatDoor
open Go.RowKit
set_option linter.unusedSimpArgs false
set_option maxRecDepth 8000
set_option linter.unusedVariables false
def OwnS (w : World) (base : Nat) (v : Value) (l : List ByteArray) : Prop := w.ownsRow base 9 1 v l.length (l.map Value.string)
theorem ownS_nil (w : World) (base : Nat) : OwnS w base (.slice none 0 0) [] := World.ownsRow_nil _ _ _ _
theorem OwnS.slice {w : World} {base : Nat} {v : Value} {l : List ByteArray} (h : OwnS w base v l) {n : Nat} (hn : l.length = n) : ∃ a cap, v = .slice a n cap := by
 rcases h.2 with ⟨rfl, h2⟩ | ⟨g, cap, cur, rfl, _⟩
 ·exact ⟨none, 0, by rw [← hn, h2]⟩
 ·exact ⟨_, cap, by rw [hn]⟩
theorem OwnS.at {w : World} {base : Nat} {v : Value} {l : List ByteArray} (h : OwnS w base v l) {n : Nat} (hn : l.length = n) {i : Nat} {x : ByteArray} (hx : l[i]? = some x) : ∃ g cap, v = .slice (some ⟨g, 0, none⟩) n cap ∧ w.cell? ⟨g, i, none⟩ = some (.string x) ∧ base ≤ g ∧ g < w.heap.size := by
 have hi := (List.getElem?_eq_some_iff.1 hx).1
 have hrow : w.ownsRow base 9 1 v l.length (l.map Value.string) := h
 rcases h.2 with ⟨_, h2⟩ | ⟨g, cap, cur, rfl, hb, _⟩
 ·omega
 ·refine ⟨g, cap, by rw [hn], ?_, hb, (hrow.lt g rfl).2⟩
  rw [hrow.cellAt i (by omega), List.getElem?_map, hx]
  rfl
theorem OwnS.below {w w' : World} {base : Nat} {v : Value} {l : List ByteArray} (h : OwnS w base v l) (b : Below w.heap.size w w') : OwnS w' base v l := by
 refine ⟨h.1, ?_⟩
 rcases h.2 with h1 | ⟨g, cap, cur, hv, hb, hg, rest⟩
 ·exact .inl h1
 ·exact .inr ⟨g, cap, cur, hv, hb, (b.block g (Array.getElem?_eq_some_iff.1 hg).1).trans hg, rest⟩
theorem info_str : (Tryz.prog.info? 9).map (fun i => (i.zero, i.size, i.bytes)) = some (some (.string ⟨#[]⟩), 1, 16) := by kernel_rfl
theorem info_strs : ∃ i, Tryz.prog.info? 9 = some i ∧ i.zero = some (.string ⟨#[]⟩) ∧ i.size = 1 ∧ i.bytes = 16 := by
 have := info_str
 cases h : Tryz.prog.info? 9 with
 | none => rw [h] at this; cases this
 | some i =>
  rw [h] at this
  have hq : (i.zero, i.size, i.bytes) = (some (.string ⟨#[]⟩), 1, 16) := by simpa using this
  exact ⟨i, rfl, congrArg Prod.fst hq, congrArg (fun p => p.2.1) hq, congrArg (fun p => p.2.2) hq⟩
theorem append_str (W : World) (base : Nat) (v : Value) (l : List ByteArray) (x : ByteArray) (hown : OwnS W base v l) (hb : base ≤ W.heap.size) (hl : l.length < 900000) :
    ∃ v' W', (Builtin.append_ #[39, 39] 39 #[v, .slice (some ⟨W.heap.size, 0, none⟩) 1 1]).run Tryz.prog (W.alloc (.cells #[.string x] 9)) = .ok v' W' ∧ OwnS W' base v' (l ++ [x]) ∧ Below base W W' := by
 obtain ⟨i, hi, hz, hs, hby⟩ := info_strs
 have ho : (W.alloc (.cells #[.string x] 9)).ownsRow base 9 1 v l.length (l.map Value.string) := World.ownsRow.alloc hown _
 obtain ⟨v', W', h1, h2, h3, _⟩ := run_append_own (P := Tryz.prog) (W.alloc (.cells #[.string x] 9)) base 39 39 9 i _ 1 16 Tryz.underlying39 hi hz hs hby rfl (by decide) v l.length (l.map Value.string) ho ⟨W.heap.size, 0, none⟩ 1 1 [.string x] rfl (fun j u hu => by
  have hj : j = 0 := by have := (List.getElem?_eq_some_iff.1 hu).1; simp at this; exact this
  subst hj
  simp at hu
  subst hu
  rw [show (⟨W.heap.size, 0, none⟩ : Addr).add 0 = ⟨W.heap.size, 0, none⟩ by simp [Addr.add], World.cell?_alloc_at _ _ _ _ rfl]
  rfl) (by simp [Value.oneCell']) (by simp only [maxLen]; omega) (by omega) (by simp; omega)
 refine ⟨v', W', h1, ?_, ?_⟩
 ·unfold OwnS
  rw [List.map_append, List.length_append]
  exact h2
 ·exact ((Below.refl base W).alloc hb _).grown h3 (by simp; omega) (fun k hk => (ho.lt k hk).1)
section
variable {ops : Array Oper} {rest : List Oper} {o : Oper} {a : Act} {w : World} {Q : Exit → Act → World → Prop}
theorem wpList_append_str (hg : o.guard = none) (x y : Operand) (ho : o.op = .call { callee := .builtin .append, args := #[x, y], argTypes := #[39, 39] }) (hty : o.type = 39) {u v r : Value} {w' : World} (hx : a.eval x = u) (hy : a.eval y = v)
    (hc : (Builtin.append_ #[39, 39] 39 #[u, v]).run Tryz.prog w = .ok r w')
    (h : wpList Tryz.prog ops Q rest (a.put o.dst r) w') : wpList Tryz.prog ops Q (o :: rest) a w := by
 refine wpList_value hg ?_ h
 unfold execOp
 simp only [ho, hty, resolve, invoke, builtin, Sem.run_bind, Sem.run_pure, Result.andThen_ok]
 simp [hx, hy, hc, Result.andThen]
end
def partsTo (u : ByteArray) : Nat → Nat × List ByteArray
 | 0 => (1, [])
 | i + 1 => if i + 1 = u.size ∨ u.data.toList.getD (i + 1) 0 = 47 then (i + 2, (partsTo u i).2 ++ [u.extract (partsTo u i).1 (i + 1)]) else partsTo u i
def partsOf (u : ByteArray) : List ByteArray := if u.size ≤ 1 then [] else (partsTo u u.size).2
theorem partsTo_lo (u : ByteArray) : ∀ i, 1 ≤ (partsTo u i).1 ∧ (partsTo u i).1 ≤ i + 1 ∧ (partsTo u i).2.length ≤ i
 | 0 => ⟨Nat.le_refl _, Nat.le_refl _, Nat.le_refl _⟩
 | i + 1 => by
  obtain ⟨h1, h2, h3⟩ := partsTo_lo u i
  unfold partsTo
  split
  ·refine ⟨by simp, by simp, by simp; omega⟩
  ·exact ⟨h1, by omega, by omega⟩
set_option maxHeartbeats 4000000 in
theorem rparts_any (u : ByteArray) (hu : u.size ≤ 100000) (w : World) :
    Calls Tryz.prog 87 #[.string u] w fun e w' => ∃ v, e = .returned v ∧ OwnS w' w.heap.size v (partsOf u) ∧ Below w.heap.size w w' := by
 by_cases h1 : u.size ≤ 1
 ·have e : partsOf u = [] := by rw [partsOf, if_pos h1]
  rw [e]
  go_enter Tryz.func87, Tryz.ntmps87
  go_wp2
  go_loopw [3, 5] (fun t3 t5 wr => t3 = .slice none 0 0 ∧ t5 = .int .i64 1 ∧ wr = w) (fun _ _ _ => 0)
  case atStart => exact ⟨rfl, rfl, rfl⟩
  case round =>
   obtain ⟨rfl, rfl, rfl⟩ := hrel
   by_cases h0 : u.size = 1
   ·have h2 : ¬ (1 : Int) < (u.size : Int) := by omega
    have h3 : (1 : Int) ≤ (u.size : Int) := by omega
    go_wp2
    go_ret
    exact ⟨.slice none 0 0, rfl, ownS_nil _ _, Below.refl _ _⟩
   ·have h3 : ¬ (1 : Int) ≤ (u.size : Int) := by omega
    go_wp2
    go_ret
    exact ⟨.slice none 0 0, rfl, ownS_nil _ _, Below.refl _ _⟩
 ·have e : partsOf u = (partsTo u u.size).2 := by rw [partsOf, if_neg h1]
  rw [e]
  clear e
  have h1' : (1 : Int) < (u.size : Int) := by omega
  go_enter Tryz.func87, Tryz.ntmps87
  go_wp2
  go_loopw [3, 4, 5] (fun t3 t4 t5 wr => ∃ i : Nat, i ≤ u.size ∧ t5 = .int .i64 ((i : Int) + 1) ∧ t4 = .int .i64 ((partsTo u i).1 : Nat) ∧ OwnS wr w.heap.size t3 (partsTo u i).2 ∧ Below w.heap.size w wr) (fun _ _ t5 _ => u.size + 1 - (Go.RowKit.intOf t5).toNat)
  case atStart => exact ⟨0, by omega, rfl, rfl, ownS_nil _ _, Below.refl _ _⟩
  case round =>
   obtain ⟨i, hi, rfl, rfl, ho, hB⟩ := hrel
   obtain ⟨p1, p2, p3⟩ := partsTo_lo u i
   obtain ⟨fr, hfr⟩ : ∃ fr, (partsTo u i).1 = fr := ⟨_, rfl⟩
   obtain ⟨ps, hps⟩ : ∃ ps, (partsTo u i).2 = ps := ⟨_, rfl⟩
   rw [hps] at ho p3
   rw [hfr] at p1 p2 ⊢
   by_cases hlt : i < u.size
   ·obtain ⟨v2, W2, hap, ho2, hB2⟩ := append_str wr w.heap.size u3 ps (u.extract fr (i + 1)) ho hB.size (by omega)
    have hBn : Below w.heap.size w W2 := hB.trans hB2
    have hstep : ∀ b : Bool, decide (i + 1 = u.size ∨ u.data.toList.getD (i + 1) 0 = 47) = b → partsTo u (i + 1) = if b = true then (i + 2, ps ++ [u.extract fr (i + 1)]) else (fr, ps) := fun b hb => by
     show (if i + 1 = u.size ∨ u.data.toList.getD (i + 1) 0 = 47 then (i + 2, (partsTo u i).2 ++ [u.extract (partsTo u i).1 (i + 1)]) else partsTo u i) = _
     cases b
     ·rw [if_neg (of_decide_eq_false hb), if_neg (by simp), ← hfr, ← hps]
     ·rw [if_pos (of_decide_eq_true hb), if_pos rfl, hfr, hps]
    have c1 : (i : Int) + 1 ≤ (u.size : Int) := by omega
    have c2 : (fr : Int) ≤ (i : Int) + 1 := by omega
    have c3 : fr ≤ i + 1 := by omega
    obtain ⟨b, hb⟩ : ∃ b, decide (i + 1 = u.size ∨ u.data.toList.getD (i + 1) 0 = 47) = b := ⟨_, rfl⟩
    have hs := hstep b hb
    clear hstep
    go_upto_region 6 with fail
    go_cut [26] from 17 to 25 (fun c wx => c = .bool b ∧ wx = wr)
    case first =>
     clear hap hs
     by_cases hend : i + 1 = u.size
     ·obtain rfl : b = true := by rw [← hb]; simp [hend]
      have e1 : ((i : Int) + 1 == (u.size : Int)) = true := by simp; omega
      have e2 : (i : Int) + 1 = (u.size : Int) := by omega
      as_aux_lemma =>
       go_wp2_with fail
       go_meet
       exact ⟨rfl, rfl⟩
     ·have hlt2 : i + 1 < u.size := by omega
      have hby := byte_at hlt2
      obtain ⟨k, hk⟩ : ∃ k : Nat, (u[i + 1]'hlt2).toNat = k := ⟨_, rfl⟩
      have e1 : ((i : Int) + 1 == (u.size : Int)) = false := by simp; omega
      have e2 : ¬ (i : Int) + 1 = (u.size : Int) := by omega
      have hbk : b = ((k : Int) == 47) := by
       rw [← hb, hby]
       have : (u[i + 1]'hlt2 = 47) ↔ k = 47 := ⟨fun e => by rw [← hk, e]; rfl, fun e => by apply UInt8.toNat_inj.1; rw [hk, e]; rfl⟩
       by_cases h9 : k = 47
       ·simp [this, h9]
       ·simp [this, h9, hend]; omega
      clear hby hb
      as_aux_lemma =>
       go_wp2_with fail
       go_meet
       exact ⟨by rw [hbk], rfl⟩
    case rest =>
     obtain ⟨rfl, hwc⟩ := hcut
     have hwc := hwc.symm
     subst hwc
     clear hb
     cases b
     ·rw [if_neg (by simp)] at hs
      as_aux_lemma =>
       go_wp2_with fail
       exact ⟨⟨i + 1, by omega, by simp, by rw [hs], by rw [hs]; exact ho, hB⟩, by simp [Go.RowKit.intOf]; omega⟩
     ·rw [if_pos rfl] at hs
      as_aux_lemma =>
       go_wp2_with (first | (refine wpList_append_str rfl _ _ rfl rfl rfl rfl hap ?_) | fail)
       exact ⟨⟨i + 1, by omega, by simp, by rw [hs]; simp; omega, by rw [hs]; exact ho2, hBn⟩, by simp [Go.RowKit.intOf]; omega⟩
   ·obtain rfl : i = u.size := by omega
    have h3 : ¬ ((u.size : Int) + 1) ≤ (u.size : Int) := by omega
    go_wp2
    go_ret
    exact ⟨u3, rfl, by first | exact ho | (rw [hps]; exact ho), hB⟩
def checkOf (u : ByteArray) : Int :=
 if 78 < u.size then 5 else if eqs u slashS = true then 0 else if u.size < 2 ∨ u.data.toList.getD 0 0 ≠ 47 then 1
 else if 6 < (partsOf u).length then 1 else if (partsOf u).all name = true then 0 else 1
theorem parts_small (u : ByteArray) : ∀ x ∈ partsOf u, x.size ≤ u.size := by
 have key : ∀ i, ∀ x ∈ (partsTo u i).2, x.size ≤ u.size := by
  intro i
  induction i with
  | zero => intro x hx; simp [partsTo] at hx
  | succ i ih =>
   intro x hx
   unfold partsTo at hx
   split at hx
   ·rcases List.mem_append.1 hx with hx | hx
    ·exact ih x hx
    ·simp at hx
     subst hx
     simp
     omega
   ·exact ih x hx
 intro x hx
 unfold partsOf at hx
 split at hx
 ·cases hx
 ·exact key _ x hx
set_option maxHeartbeats 4000000 in
theorem rpcheck_any (u : ByteArray) (hu : u.size ≤ 100000) (w : World) :
    Calls Tryz.prog 86 #[.string u] w fun e w' => e = .returned (.int .i64 (checkOf u)) ∧ Below w.heap.size w w' := by
 unfold checkOf
 by_cases h78 : 78 < u.size
 ·rw [if_pos h78]
  have h1 : (78 : Int) < (u.size : Int) := by omega
  go_enter Tryz.func86, Tryz.ntmps86
  go_wp2
  go_ret
  exact ⟨rfl, Below.refl _ _⟩
 rw [if_neg h78]
 cases hsl : eqs u slashS
 case true =>
  have hl := eqs_lit true hsl
  have hl2 : u.toList = [47] := by simpa using hl
  rw [if_pos rfl]
  go_enter Tryz.func86, Tryz.ntmps86
  go_wp2
  go_ret
  exact ⟨rfl, Below.refl _ _⟩
 have hl := eqs_lit false hsl
 have hl2 : ¬ u.toList = [47] := by simpa using hl
 rw [if_neg (by simp)]
 by_cases h2 : u.size < 2
 ·rw [if_pos (.inl h2)]
  go_enter Tryz.func86, Tryz.ntmps86
  go_wp2
  go_ret
  exact ⟨rfl, Below.refl _ _⟩
 have h0 : 0 < u.size := by omega
 have hby := byte_at h0
 obtain ⟨k, hk⟩ : ∃ k : Nat, (u[0]'h0).toNat = k := ⟨_, rfl⟩
 have hk47 : u.data.toList.getD 0 0 = 47 ↔ k = 47 := by
  rw [hby]
  exact ⟨fun e => by rw [← hk, e]; rfl, fun e => by apply UInt8.toNat_inj.1; rw [hk, e]; rfl⟩
 by_cases h47 : k = 47
 ·rw [if_neg (by rw [not_or]; exact ⟨h2, fun h => h (hk47.2 h47)⟩)]
  have hkb : ((k : Int) != 47) = false := by simp; omega
  have cP := rparts_any u (by omega) w
  have hsm := parts_small u
  obtain ⟨ps, hps⟩ : ∃ ps, partsOf u = ps := ⟨_, rfl⟩
  rw [hps] at cP hsm ⊢
  obtain ⟨ln, hln⟩ : ∃ ln, ps.length = ln := ⟨_, rfl⟩
  obtain ⟨r, hr⟩ : ∃ r : Int, (if 6 < ps.length then (1 : Int) else if ps.all name = true then 0 else 1) = r := ⟨_, rfl⟩
  rw [hr]
  rw [hln] at hr
  clear hk47 hby
  go_enter Tryz.func86, Tryz.ntmps86
  go_wp2_with fail
  refine cP.mono ?_
  rintro e w1 ⟨v, rfl, ho, hB⟩
  obtain ⟨a, cap, rfl⟩ := ho.slice hln
  by_cases h6 : 6 < ln
  ·rw [if_pos h6] at hr
   subst hr
   go_wp2_with fail
   go_ret
   exact ⟨rfl, hB⟩
  ·rw [if_neg h6] at hr
   go_wp2_with fail
   go_loopw [4] (fun t4 wr => ∃ i : Nat, i ≤ ln ∧ t4 = .int .i64 (i : Int) ∧ wr = w1 ∧ Aside (r = if (ps.drop i).all name = true then 0 else 1)) (fun t4 _ => ln - (Go.RowKit.intOf t4).toNat)
   case atStart => exact ⟨0, by omega, rfl, rfl, by rw [Aside, List.drop_zero, hr]⟩
   case round =>
    obtain ⟨i, hi, rfl, rfl, hall⟩ := hrel
    clear hr
    by_cases hlt : i < ln
    ·obtain ⟨x, hx⟩ : ∃ x, ps[i]? = some x := ⟨_, List.getElem?_eq_getElem (by omega)⟩
     obtain ⟨g, cap', hv, hc, _, _⟩ := ho.at hln hx
     injection hv with q1 q2 q3
     subst q1 q3
     have hxs := hsm x (List.mem_of_getElem? hx)
     have hd : (ps.drop i).all name = (name x && (ps.drop (i + 1)).all name) := by
      have hil := (List.getElem?_eq_some_iff.1 hx).1
      rw [List.drop_eq_getElem_cons hil, List.all_cons, (List.getElem?_eq_some_iff.1 hx).2]
     rw [hd] at hall
     have cN := rname_any x (by omega)
     cases hnx : name x
     ·rw [hnx] at hall cN
      obtain rfl : r = 1 := by rw [hall.out]; simp
      as_aux_lemma =>
       go_wp2_with (go_at_call 114; refine (cN _).mono ?_; rintro e w' ⟨rfl, rfl⟩)
       go_ret
       exact ⟨rfl, hB⟩
     ·rw [hnx, Bool.true_and] at hall
      rw [hnx] at cN
      as_aux_lemma =>
       go_wp2_with (go_at_call 114; refine (cN _).mono ?_; rintro e w' ⟨rfl, rfl⟩)
       exact ⟨⟨i + 1, by omega, by simp, by simp, hall⟩, by simp [Go.RowKit.intOf]; omega⟩
    ·obtain rfl : r = 0 := by
       rw [hall.out, List.drop_eq_nil_of_le (by omega)]
       rfl
     as_aux_lemma =>
      go_wp2_with fail
      go_ret
      exact ⟨rfl, hB⟩
 ·rw [if_pos (.inr (fun h => h47 (hk47.1 h)))]
  have hkb : ((k : Int) != 47) = true := by simp; omega
  have hkc : ¬ (k : Int) = 47 := by omega
  clear hk47 hby
  go_enter Tryz.func86, Tryz.ntmps86
  go_wp2
  go_ret
  exact ⟨rfl, Below.refl _ _⟩
end Go.Proofs.YtidihdiffiffmaaGreatDoor
namespace Go.Proofs.YtidihdiffiffmaaGreatDoor
set_option linter.unusedSimpArgs false
set_option linter.unusedVariables false
abbrev bytes (u : ByteArray) : List UInt8 := u.data.toList
theorem bytes_len (u : ByteArray) : (bytes u).length = u.size := Array.length_toList
theorem bytes_inj {u v : ByteArray} (h : bytes u = bytes v) : u = v := ByteArray.ext (Array.ext' h)
theorem bytes_extract (u : ByteArray) (i j : Nat) : bytes (u.extract i j) = ((bytes u).take j).drop i := by
 simp [bytes, ByteArray.data_extract, List.drop_take]
theorem bytes_append (a b : ByteArray) : bytes (a ++ b) = bytes a ++ bytes b := ByteArray.toList_data_append
theorem bytes_slash : bytes slashS = [47] := rfl
def body : List ByteArray → List UInt8
 | [] => []
 | n :: r => 47 :: (bytes n ++ body r)
theorem body_append : ∀ a b : List ByteArray, body (a ++ b) = body a ++ body b
 | [], b => rfl
 | n :: r, b => by simp [body, body_append r b]
theorem body_one (n : ByteArray) : body [n] = 47 :: bytes n := by simp [body]
def pathB (ns : List ByteArray) : ByteArray := if ns = [] then slashS else ⟨(body ns).toArray⟩
theorem pathB_bytes {ns : List ByteArray} (h : ns ≠ []) : bytes (pathB ns) = body ns := by simp [pathB, h, bytes]
theorem pathB_nil : pathB [] = slashS := by simp [pathB]
def Flat (n : ByteArray) : Prop := ∀ c ∈ bytes n, c ≠ 47
theorem name_flat {n : ByteArray} (h : name n = true) : Flat n := by
 intro c hc e
 simp only [name, Bool.and_eq_true, decide_eq_true_eq, List.all_eq_true] at h
 have := h.2.2 c hc
 rw [e] at this
 revert this
 decide
theorem name_size {n : ByteArray} (h : name n = true) : 1 ≤ n.size ∧ n.size ≤ 12 := by
 simp only [name, Bool.and_eq_true, decide_eq_true_eq] at h
 exact ⟨h.1, h.2.1⟩
theorem eqs_bytes {a b : ByteArray} : eqs a b = true ↔ bytes a = bytes b := by
 unfold eqs
 rw [toL, toL]
 simp
/-! ### Parts, of any text that begins with a slash -/
theorem take_split (l : List UInt8) (f j : Nat) (hj : j ≤ l.length) (hf : f < j) (h : l.getD f 0 = 47) : l.take j = l.take f ++ 47 :: (l.take j).drop (f + 1) := by
 have hl : (l.take j).length = j := by rw [List.length_take]; omega
 have e1 : l.take f = (l.take j).take f := by rw [List.take_take, Nat.min_eq_left (by omega)]
 have e2 : (l.take j)[f]'(by omega) = 47 := by
  rw [List.getElem_take]
  have : l.getD f 0 = l[f]'(by omega) := by simp [show f < l.length by omega]
  rw [← this, h]
 conv => lhs; rw [← List.take_append_drop f (l.take j)]
 rw [← e1, List.drop_eq_getElem_cons (by omega), e2]
theorem parts_inv {u : ByteArray} (h0 : (bytes u).getD 0 0 = 47) : ∀ i, i < u.size → 1 ≤ (partsTo u i).1 ∧ (partsTo u i).1 ≤ i + 1 ∧ (bytes u).take ((partsTo u i).1 - 1) = body (partsTo u i).2 ∧ (bytes u).getD ((partsTo u i).1 - 1) 0 = 47
 | 0, _ => ⟨Nat.le_refl _, Nat.le_refl _, rfl, h0⟩
 | i + 1, hi => by
  obtain ⟨h1, h2, h3, h4⟩ := parts_inv h0 i (by omega)
  unfold partsTo
  split
  ·rename_i hc
   have hb : (bytes u).getD (i + 1) 0 = 47 := by
    rcases hc with hc | hc
    ·omega
    ·exact hc
   refine ⟨by simp, by simp, ?_, by simpa using hb⟩
   show (bytes u).take (i + 2 - 1) = body ((partsTo u i).2 ++ [u.extract (partsTo u i).1 (i + 1)])
   rw [body_append, body_one, bytes_extract, ← h3]
   obtain ⟨f, hf⟩ : ∃ f, (partsTo u i).1 = f + 1 := ⟨(partsTo u i).1 - 1, by omega⟩
   rw [hf] at h4 ⊢
   simp only [Nat.add_sub_cancel] at h4 ⊢
   exact take_split (bytes u) f (i + 1) (by rw [bytes_len]; omega) (by omega) h4
  ·exact ⟨h1, by omega, h3, h4⟩
theorem parts_whole {u : ByteArray} (h0 : (bytes u).getD 0 0 = 47) (h2 : 2 ≤ u.size) : body (partsOf u) = bytes u ∧ partsOf u ≠ [] := by
 obtain ⟨m, hm⟩ : ∃ m, u.size = m + 1 := ⟨u.size - 1, by omega⟩
 obtain ⟨h1, hle, h3, h4⟩ := parts_inv h0 m (by omega)
 have hp : partsTo u u.size = (m + 2, (partsTo u m).2 ++ [u.extract (partsTo u m).1 (m + 1)]) := by
  rw [hm]
  show (if m + 1 = u.size ∨ _ then _ else _) = _
  rw [if_pos (.inl hm.symm)]
 rw [partsOf, if_neg (by omega), hp]
 refine ⟨?_, by simp⟩
 rw [body_append, body_one, bytes_extract, ← h3]
 obtain ⟨f, hf⟩ : ∃ f, (partsTo u m).1 = f + 1 := ⟨(partsTo u m).1 - 1, by omega⟩
 rw [hf] at h4 ⊢
 simp only [Nat.add_sub_cancel] at h4 ⊢
 rw [← take_split (bytes u) f (m + 1) (by rw [bytes_len]; omega) (by omega) h4]
 exact List.take_of_length_le (by rw [bytes_len]; omega)
def Names (ns : List ByteArray) : Prop := ns.length ≤ 6 ∧ ∀ n ∈ ns, name n = true
theorem check_path {u : ByteArray} (h : checkOf u = 0) : ∃ ns, Names ns ∧ u = pathB ns ∧ u.size ≤ 78 := by
 unfold checkOf at h
 split at h
 ·cases h
 ·rename_i h78
  split at h
  ·rename_i hs
   exact ⟨[], ⟨by simp, by simp⟩, by rw [pathB_nil]; exact eqs_iff.1 hs, by omega⟩
  ·split at h
   ·cases h
   ·rename_i hc
    rw [not_or] at hc
    split at h
    ·cases h
    ·split at h
     ·rename_i h6 hall
      have h0 : (bytes u).getD 0 0 = 47 := by simpa using hc.2
      obtain ⟨hb, hne⟩ := parts_whole h0 (by omega)
      refine ⟨partsOf u, ⟨by omega, List.all_eq_true.1 hall⟩, bytes_inj ?_, by omega⟩
      rw [pathB_bytes hne, hb]
     ·cases h
/-! ### The last slash -/
theorem slash_last (u : ByteArray) (A : List UInt8) (n : ByteArray) (hf : Flat n) (hu : bytes u = A ++ 47 :: bytes n) : ∀ j, j ≤ n.size → slashTo u (A.length + 1 + j) = A.length
 | 0, _ => by
  show (if (bytes u).getD A.length 0 = 47 then A.length else _) = _
  rw [if_pos]
  rw [hu, List.getD_eq_getElem?_getD, List.getElem?_append_right (Nat.le_refl _)]
  simp
 | j + 1, hj => by
  have hjl : j < (bytes n).length := by rw [bytes_len]; omega
  show (if (bytes u).getD (A.length + 1 + j) 0 = 47 then _ else slashTo u (A.length + 1 + j)) = _
  rw [if_neg]
  ·exact slash_last u A n hf hu j (by omega)
  ·rw [hu, List.getD_eq_getElem?_getD, List.getElem?_append_right (by omega), show A.length + 1 + j - A.length = j + 1 by omega, List.getElem?_cons_succ, List.getElem?_eq_getElem hjl]
   exact hf _ (List.getElem_mem hjl)
theorem slash_path {ns : List ByteArray} {n : ByteArray} (hf : Flat n) : slashTo (pathB (ns ++ [n])) (pathB (ns ++ [n])).size = (body ns).length := by
 have hb : bytes (pathB (ns ++ [n])) = body ns ++ 47 :: bytes n := by rw [pathB_bytes (by simp), body_append, body_one]
 have hs : (pathB (ns ++ [n])).size = (body ns).length + 1 + n.size := by
  rw [← bytes_len, hb, List.length_append, List.length_cons, bytes_len]
  omega
 rw [hs]
 exact slash_last _ _ _ hf hb _ (Nat.le_refl _)
theorem path_size (ns : List ByteArray) (n : ByteArray) : (pathB (ns ++ [n])).size = (body ns).length + 1 + n.size := by
 rw [← bytes_len, pathB_bytes (by simp), body_append, body_one, List.length_append, List.length_cons, bytes_len]
 omega
theorem body_pos {ns : List ByteArray} (h : ns ≠ []) : (body ns).length ≠ 0 := by
 cases ns with
 | nil => exact absurd rfl h
 | cons a r => simp [body]
theorem parent_path {ns : List ByteArray} {n : ByteArray} (hf : Flat n) (hn : 1 ≤ n.size) : parentOf (pathB (ns ++ [n])) = pathB ns := by
 have hsz := path_size ns n
 unfold parentOf
 rw [if_neg (by omega), slash_path hf]
 by_cases h : ns = []
 ·subst h
  rw [if_pos (show (body []).length = 0 from rfl), pathB_nil]
  rfl
 ·rw [if_neg (body_pos h)]
  apply bytes_inj
  rw [bytes_extract, pathB_bytes (by simp), pathB_bytes h, body_append]
  simp
theorem last_path {ns : List ByteArray} {n : ByteArray} (hf : Flat n) (hn : 1 ≤ n.size) : lastOf (pathB (ns ++ [n])) = n := by
 have hsz := path_size ns n
 unfold lastOf
 rw [if_neg (by omega), slash_path hf]
 apply bytes_inj
 rw [bytes_extract, List.take_of_length_le (by rw [bytes_len]; exact Nat.le_refl _), pathB_bytes (by simp), body_append, body_one]
 rw [show (body ns).length + 1 = (body ns ++ [47]).length by simp, show body ns ++ 47 :: bytes n = (body ns ++ [47]) ++ bytes n by simp, List.drop_left]
theorem path_root {ns : List ByteArray} (hf : ∀ n ∈ ns, 1 ≤ n.size) : eqs (pathB ns) slashS = true ↔ ns = [] := by
 rw [eqs_bytes]
 constructor
 ·intro h
  cases ns with
  | nil => rfl
  | cons a r =>
   rw [pathB_bytes (by simp), bytes_slash] at h
   have h1 := congrArg List.length h
   have h2 := hf a (by simp)
   rw [← bytes_len] at h2
   simp [body] at h1
   rw [bytes_len] at h2
   have : (bytes a).length = 0 := by rw [h1.1]; rfl
   rw [bytes_len] at this
   omega
 ·rintro rfl
  rw [pathB_nil]
theorem join_path {ns : List ByteArray} (n : ByteArray) (hf : ∀ n ∈ ns, 1 ≤ n.size) : joinOf (pathB ns) n = pathB (ns ++ [n]) := by
 unfold joinOf
 by_cases h : ns = []
 ·subst h
  rw [if_pos ((path_root (by simp)).2 rfl)]
  apply bytes_inj
  rw [bytes_append, pathB_nil, bytes_slash, pathB_bytes (by simp)]
  simp [body]
 ·rw [if_neg (fun e => h ((path_root hf).1 e))]
  apply bytes_inj
  rw [bytes_append, bytes_append, pathB_bytes h, bytes_slash, pathB_bytes (by simp), body_append, body_one]
  simp
/-! ### Which lies below which -/
theorem split_flat : ∀ (n m X Y : List UInt8), (∀ c ∈ n, c ≠ 47) → (∀ c ∈ m, c ≠ 47) → (X = [] ∨ ∃ r, X = 47 :: r) → (Y = [] ∨ ∃ r, Y = 47 :: r) → n ++ X = m ++ Y → n = m ∧ X = Y
 | [], [], X, Y, _, _, _, _, h => ⟨rfl, h⟩
 | [], c :: m, X, Y, _, hm, hX, _, h => by
  rcases hX with rfl | ⟨r, rfl⟩
  ·simp at h
  ·simp at h
   exact absurd h.1.symm (hm c (by simp))
 | c :: n, [], X, Y, hn, _, _, hY, h => by
  rcases hY with rfl | ⟨r, rfl⟩
  ·simp at h
  ·simp at h
   exact absurd h.1 (hn c (by simp))
 | c :: n, d :: m, X, Y, hn, hm, hX, hY, h => by
  simp only [List.cons_append, List.cons.injEq] at h
  obtain ⟨h1, h2⟩ := split_flat n m X Y (fun x hx => hn x (by simp [hx])) (fun x hx => hm x (by simp [hx])) hX hY h.2
  exact ⟨by rw [h.1, h1], h2⟩
theorem body_head (ns : List ByteArray) : body ns = [] ∨ ∃ r, body ns = 47 :: r := by
 cases ns with
 | nil => exact .inl rfl
 | cons a r => exact .inr ⟨_, rfl⟩
/-! ### The parts of a path are its names -/
theorem flat_extract (u : ByteArray) (f i : Nat) (h : ∀ q, f ≤ q → q ≤ i → (bytes u).getD q 0 ≠ 47) : Flat (u.extract f (i + 1)) := by
 intro c hc
 rw [bytes_extract] at hc
 obtain ⟨j, hj, rfl⟩ := List.mem_iff_getElem.1 hc
 rw [List.length_drop, List.length_take] at hj
 rw [List.getElem_drop, List.getElem_take]
 have := h (f + j) (by omega) (by omega)
 rwa [List.getD_eq_getElem?_getD, List.getElem?_eq_getElem (by omega)] at this
theorem parts_flat_inv (u : ByteArray) : ∀ i, i < u.size → (∀ x ∈ (partsTo u i).2, Flat x) ∧ ∀ q, (partsTo u i).1 ≤ q → q ≤ i → (bytes u).getD q 0 ≠ 47
 | 0, _ => ⟨by simp [partsTo], fun q h1 h2 => by have : (partsTo u 0).1 = 1 := rfl; omega⟩
 | i + 1, hi => by
  obtain ⟨h1, h2⟩ := parts_flat_inv u i (by omega)
  unfold partsTo
  split
  ·refine ⟨fun x hx => ?_, fun q hq hq2 => by have h9 : i + 2 ≤ q := hq; omega⟩
   rcases List.mem_append.1 hx with hx | hx
   ·exact h1 x hx
   ·simp at hx
    subst hx
    exact flat_extract u _ _ h2
  ·rename_i hc
   rw [not_or] at hc
   refine ⟨h1, fun q hq hq2 => ?_⟩
   by_cases e : q = i + 1
   ·subst e; exact hc.2
   ·exact h2 q hq (by omega)
theorem parts_flat (u : ByteArray) : ∀ x ∈ partsOf u, Flat x := by
 unfold partsOf
 split
 ·simp
 ·obtain ⟨m, hm⟩ : ∃ m, u.size = m + 1 := ⟨u.size - 1, by omega⟩
  obtain ⟨h1, h2⟩ := parts_flat_inv u m (by omega)
  have hp : partsTo u u.size = (m + 2, (partsTo u m).2 ++ [u.extract (partsTo u m).1 (m + 1)]) := by
   rw [hm]
   show (if m + 1 = u.size ∨ _ then _ else _) = _
   rw [if_pos (.inl hm.symm)]
  rw [hp]
  intro x hx
  rcases List.mem_append.1 hx with hx | hx
  ·exact h1 x hx
  ·simp at hx
   subst hx
   exact flat_extract u _ _ h2
theorem body_inj : ∀ (a b : List ByteArray), (∀ n ∈ a, Flat n) → (∀ n ∈ b, Flat n) → body a = body b → a = b
 | [], [], _, _, _ => rfl
 | [], n :: b, _, _, h => by simp [body] at h
 | n :: a, [], _, _, h => by simp [body] at h
 | n :: a, m :: b, ha, hb, h => by
  simp only [body, List.cons.injEq, true_and] at h
  obtain ⟨h1, h2⟩ := split_flat (bytes n) (bytes m) (body a) (body b) (ha n (by simp)) (hb m (by simp)) (body_head a) (body_head b) h
  rw [bytes_inj h1, body_inj a b (fun x hx => ha x (by simp [hx])) (fun x hx => hb x (by simp [hx])) h2]
theorem parts_path {ns : List ByteArray} (hf : ∀ n ∈ ns, Flat n ∧ 1 ≤ n.size) : partsOf (pathB ns) = ns := by
 cases ns with
 | nil => rw [pathB_nil]; rfl
 | cons n r =>
  have hb : bytes (pathB (n :: r)) = body (n :: r) := pathB_bytes (by simp)
  have hs : 2 ≤ (pathB (n :: r)).size := by
   have := (hf n (by simp)).2
   rw [← bytes_len, hb]
   simp only [body, List.length_cons, List.length_append]
   rw [bytes_len]
   omega
  obtain ⟨h1, _⟩ := parts_whole (u := pathB (n :: r)) (by rw [hb]; rfl) hs
  exact body_inj _ _ (parts_flat _) (fun x hx => (hf x hx).1) (h1.trans hb)
theorem Names.flat {ns : List ByteArray} (h : Names ns) : ∀ n ∈ ns, Flat n ∧ 1 ≤ n.size := fun n hn => ⟨name_flat (h.2 n hn), (name_size (h.2 n hn)).1⟩
theorem body_len : ∀ (ns : List ByteArray), (∀ n ∈ ns, name n = true) → (body ns).length ≤ 13 * ns.length
 | [], _ => Nat.le_refl _
 | n :: r, h => by
  have h1 := (name_size (h n (by simp))).2
  have h2 := body_len r (fun x hx => h x (by simp [hx]))
  simp only [body, List.length_cons, List.length_append]
  rw [bytes_len]
  omega
theorem names_size {ns : List ByteArray} (h : Names ns) : (pathB ns).size ≤ 78 := by
 cases ns with
 | nil => rw [pathB_nil]; decide
 | cons n r =>
  have := body_len _ h.2
  have h1 := h.1
  rw [← bytes_len, pathB_bytes (by simp)]
  omega
theorem check_names {ns : List ByteArray} (h : Names ns) : checkOf (pathB ns) = 0 := by
 have hs := names_size h
 unfold checkOf
 rw [if_neg (by omega)]
 by_cases h0 : ns = []
 ·subst h0
  rw [if_pos ((path_root (by simp)).2 rfl)]
 ·rw [if_neg (fun e => h0 ((path_root (fun n hn => (h.flat n hn).2)).1 e)), parts_path h.flat]
  have hb : bytes (pathB ns) = body ns := pathB_bytes h0
  have h2 : ¬ ((pathB ns).size < 2 ∨ (pathB ns).data.toList.getD 0 0 ≠ 47) := by
   cases ns with
   | nil => exact absurd rfl h0
   | cons n r =>
    have := (h.flat n (by simp)).2
    rw [not_or]
    constructor
    ·rw [← bytes_len, hb]
     simp only [body, List.length_cons, List.length_append]
     rw [bytes_len]
     omega
    ·show ¬ (bytes (pathB (n :: r))).getD 0 0 ≠ 47
     rw [hb]
     simp [body]
  rw [if_neg h2, if_neg (by have := h.1; omega), if_pos (List.all_eq_true.2 h.2)]
end Go.Proofs.YtidihdiffiffmaaGreatDoor
namespace Go.Proofs.YtidihdiffiffmaaGreatDoor
open Go.RowKit
set_option maxRecDepth 8000
set_option linter.unusedSimpArgs false
set_option linter.unusedVariables false
set_option maxHeartbeats 400000 in
theorem within_any (k m : Int) (h0 : 0 < m) (h1 : m < 1000000) (w : World) :
    Calls Tryz.prog 83 #[.int .i64 k, .int .i64 m] w fun e w' => e = .returned (.int .i64 (k % m)) ∧ w' = w := by
 have b1 := Int.lt_tmod_of_pos k h0
 have b2 := Int.tmod_lt_of_pos k h0
 have hm0 : ¬ m = 0 := by omega
 have hm1 : ¬ m = -1 := by omega
 by_cases hn : k.tmod m < 0
 ·have e1 : k % m = k.tmod m + m := by
    rw [Int.tmod_eq_emod] at hn ⊢
    split at hn
    ·have := Int.emod_nonneg k (by omega : m ≠ 0); omega
    ·rename_i hc; rw [if_neg hc]; rw [Int.natAbs_of_nonneg (by omega)]; omega
  rw [e1]
  clear e1
  go_enter Tryz.func83, Tryz.ntmps83
  go_wp2
  go_ret
  exact ⟨rfl, rfl⟩
 ·have e1 : k % m = k.tmod m := by
    rw [Int.tmod_eq_emod] at hn ⊢
    split
    ·simp
    ·rename_i hc
     rw [if_neg hc] at hn
     have := Int.emod_lt_of_pos k h0
     rw [Int.natAbs_of_nonneg (by omega)] at *
     omega
  rw [e1]
  clear e1
  go_enter Tryz.func83, Tryz.ntmps83
  go_wp2
  go_ret
  exact ⟨rfl, rfl⟩
def chr (k : Nat) : ByteArray := ⟨#[UInt8.ofNat k]⟩
theorem conv_chr (w : World) (k : Nat) (hk : k < 256) : (convert 38 9 (.slice (some ⟨w.heap.size, 0, none⟩) 1 1)).run Tryz.prog (w.alloc (.cells #[.int .u8 (k : Int)] 5)) = .ok (.string (chr k)) (w.alloc (.cells #[.int .u8 (k : Int)] 5)) := by
 refine run_convert_bytes_back _ _ _ 5 ⟨w.heap.size, 0, none⟩ 1 [UInt8.ofNat k] Tryz.underlying38 Tryz.underlying5 Tryz.underlying9 fun j hj => ?_
 obtain rfl : j = 0 := by simp at hj; omega
 rw [show (⟨w.heap.size, 0, none⟩ : Addr).add 0 = ⟨w.heap.size, 0, none⟩ by simp [Addr.add], World.cell?_alloc_at _ _ _ _ rfl]
 simp
 omega
def letterOf (x : Int) : Nat := 97 + (x.tdiv 3 % 5).toNat
def nameOf (x : Int) : ByteArray := ⟨(List.replicate ((x % 3).toNat + 1) (UInt8.ofNat (letterOf x))).toArray⟩
def namesOf (l : List Int) : List ByteArray := (l.take 6).map nameOf
theorem letter_lo (x : Int) : 97 ≤ letterOf x ∧ letterOf x ≤ 101 := by unfold letterOf; omega
theorem nameOf_name (x : Int) : name (nameOf x) = true := by
 obtain ⟨h1, h2⟩ := letter_lo x
 have hs : (nameOf x).size = (x % 3).toNat + 1 := by simp [nameOf, ByteArray.size]
 have ha : (nameOf x).data.toList.all okB = true := by
  simp only [nameOf, List.all_eq_true]
  intro c hc
  have := List.eq_of_mem_replicate hc
  subst this
  have e : (UInt8.ofNat (letterOf x)).toNat = letterOf x := by simp; omega
  simp [okB, e]
  omega
 rw [name, hs, ha]
 simp
 omega
theorem namesOf_names (l : List Int) : Names (namesOf l) := by
 refine ⟨by simp [namesOf]; omega, fun n hn => ?_⟩
 obtain ⟨x, _, rfl⟩ := List.mem_map.1 hn
 exact nameOf_name x
set_option maxHeartbeats 4000000 in
theorem of_any (a : Option Addr) (l : List Int) (n cap : Nat) (w : World) (hn : l.length = n) (hmem : ∀ j, j < n → ∃ y, a = some y ∧ w.cell? (y.add j) = some (.int .i64 (l.getD j 0))) (hrng : ∀ j, -9223372036854775808 ≤ l.getD j 0 ∧ l.getD j 0 ≤ 9223372036854775807) :
    Calls Tryz.prog 46 #[.slice a n cap] w fun e w' => e = .returned (.string (pathB (namesOf l))) ∧ Below w.heap.size w w' := by
 go_enter Tryz.func46, Tryz.ntmps46
 go_wp2_with fail
 go_loopw [3, 4] (fun t3 t4 wr => ∃ (i : Nat) (S : ByteArray), i ≤ 6 ∧ i ≤ n ∧ t4 = .int .i64 (i : Int) ∧ t3 = .string S ∧ bytes S = body ((l.take i).map nameOf) ∧ Below w.heap.size w wr) (fun _ t4 _ => 6 - (Go.RowKit.intOf t4).toNat)
 case atStart => exact ⟨0, ⟨#[]⟩, by omega, by omega, rfl, rfl, rfl, Below.refl _ _⟩
 case round =>
  obtain ⟨i, S, hi, hin, rfl, rfl, hS, hB⟩ := hrel
  by_cases hlt : i < n
  ·by_cases h6 : i < 6
   ·obtain ⟨y, rfl, hc⟩ := hmem i hlt
    obtain ⟨x, hx⟩ : ∃ x, l.getD i 0 = x := ⟨_, rfl⟩
    rw [hx] at hc
    have hxr := hrng i
    rw [hx] at hxr
    have hwt : wrap64 (x.tdiv 3) = x.tdiv 3 := (Go.IntWalk.i64_left _).symm.trans (Go.IntWalk.i64_quo' x 3 (by omega))
    have hxl : l[i]? = some x := by
     rw [List.getD_eq_getElem?_getD, List.getElem?_eq_getElem (by omega)] at hx
     rw [List.getElem?_eq_getElem (by omega)]
     simpa using hx
    have hlen : (bytes S).length ≤ 13 * i := by
     rw [hS]
     refine Nat.le_trans (body_len _ (fun m hm => ?_)) (by simp; omega)
     obtain ⟨z, _, rfl⟩ := List.mem_map.1 hm
     exact nameOf_name z
    rw [bytes_len] at hlen
    have hnext : body ((l.take (i + 1)).map nameOf) = bytes S ++ 47 :: List.replicate ((x % 3).toNat + 1) (UInt8.ofNat (letterOf x)) := by
     rw [List.take_add_one, hxl, List.map_append, body_append, hS]
     simp [body, nameOf, bytes]
    obtain ⟨m, hm⟩ : ∃ m : Nat, x % 3 = (m : Int) := ⟨(x % 3).toNat, by omega⟩
    have hm3 : m ≤ 2 := by omega
    obtain ⟨kc, hkc⟩ : ∃ kc : Nat, x.tdiv 3 % 5 = (kc : Int) := ⟨(x.tdiv 3 % 5).toNat, by omega⟩
    have hk5 : kc < 5 := by omega
    have hlt97 : letterOf x = 97 + kc := by unfold letterOf; rw [hkc]; rfl
    rw [hlt97, hm] at hnext
    simp only [Int.toNat_natCast] at hnext
    have cW1 := fun W => within_any x 3 (by decide) (by decide) W
    have cW2 := fun W => within_any (x.tdiv 3) 5 (by decide) (by decide) W
    rw [hm] at cW1
    rw [hkc] at cW2
    have hcw : ∀ W, Below w.heap.size w W → W.cell? (y.add i) = some (.int .i64 x) := fun W hW => (hW.cell (World.block_lt_of_cell? _ _ hc)).trans hc
    have b1 : ¬ 9223372036854775807 < S.size + 1 := by omega
    clear hm hkc hlt97 hx hxl
    have hc0 := hcw wr hB
    have hd6 : decide ((i : Int) < 6) = true := by simp; omega
    go_wp2_with fail
    go_loopw [3, 5] (fun t3 t5 wq => ∃ (k : Nat) (S2 : ByteArray), k ≤ m + 1 ∧ t5 = .int .i64 (k : Int) ∧ t3 = .string S2 ∧ bytes S2 = bytes S ++ 47 :: List.replicate k (UInt8.ofNat (97 + kc)) ∧ Below w.heap.size w wq) (fun _ t5 _ => m + 1 - (Go.RowKit.intOf t5).toNat)
    case atStart => exact ⟨0, _, by omega, rfl, rfl, by rw [bytes_append]; rfl, hB⟩
    case round =>
     obtain ⟨k, S2, hk, rfl, rfl, hS2, hB2⟩ := hrel
     have hc2 := hcw wr hB2
     by_cases hkm : k ≤ m
     ·have hcv := conv_chr wr (97 + kc) (by omega)
      have b2 : ¬ 9223372036854775807 < S2.size + 1 := by
       have := congrArg List.length hS2
       rw [bytes_len, List.length_append, bytes_len] at this
       simp at this
       omega
      have hwr : IntKind.u8.wrap (97 + (kc : Int)) = 97 + (kc : Int) := Go.IntWalk.u8_in _ (by omega)
      rw [show ((97 + kc : Nat) : Int) = 97 + (kc : Int) by omega] at hcv
      have hsz1 : (chr (97 + kc)).size = 1 := rfl
      go_wp2_with fail
      refine (cW1 _).mono ?_
      rintro e w' ⟨rfl, hw'⟩
      have hw' := hw'.symm
      subst hw'
      go_wp2_with fail
      refine (cW2 _).mono ?_
      rintro e w' ⟨rfl, hw'⟩
      have hw' := hw'.symm
      subst hw'
      have hBn : Below w.heap.size w (wr.alloc (.cells #[.int .u8 (97 + (kc : Int))] 5)) := hB2.alloc hB2.size _
      go_wp2_with fail
      go_roundw
      case rel => exact ⟨k + 1, S2 ++ chr (97 + kc), by omega, by simp, rfl, by rw [bytes_append, hS2, List.replicate_succ']; simp [chr, bytes], hBn⟩
      case measure => simp [Go.RowKit.intOf]; omega
     ·obtain rfl : k = m + 1 := by omega
      have hfin : bytes S2 = body ((l.take (i + 1)).map nameOf) := by rw [hS2, hnext]
      go_wp2_with fail
      refine (cW1 _).mono ?_
      rintro e w' ⟨rfl, hw'⟩
      have hw' := hw'.symm
      subst hw'
      go_wp2_with fail
      go_roundw
      case rel => exact ⟨i + 1, S2, by omega, by omega, by simp, rfl, hfin, hB2⟩
      case measure => simp [Go.RowKit.intOf]; omega
   ·obtain rfl : i = 6 := by omega
    have hS' : bytes S = body (namesOf l) := hS
    as_aux_lemma =>
     by_cases h0 : namesOf l = []
     ·have e0 : S = ⟨#[]⟩ := bytes_inj (by rw [hS', h0]; rfl)
      subst e0
      go_wp2_with fail
      go_ret
      exact ⟨by rw [h0, pathB_nil]; rfl, hB⟩
     ·have e0 : Aside (S = pathB (namesOf l)) := bytes_inj (by rw [hS', pathB_bytes h0])
      have e1 : ¬ S.toList = [] := by
       rw [toL]
       show ¬ bytes S = []
       rw [hS']
       intro e
       exact body_pos h0 (by rw [e]; rfl)
      have e2 : S.toList.isEmpty = false := by simpa using e1
      go_wp2_with fail
      go_ret
      exact ⟨by rw [← e0.out]; rfl, hB⟩
  ·have hS' : bytes S = body (namesOf l) := by
     rw [hS, namesOf, List.take_of_length_le (by omega), List.take_of_length_le (by omega)]
   as_aux_lemma =>
    by_cases h0 : namesOf l = []
    ·have e0 : S = ⟨#[]⟩ := bytes_inj (by rw [hS', h0]; rfl)
     subst e0
     go_wp2_with fail
     go_ret
     exact ⟨by rw [h0, pathB_nil]; rfl, hB⟩
    ·have e0 : Aside (S = pathB (namesOf l)) := bytes_inj (by rw [hS', pathB_bytes h0])
     have e1 : ¬ S.toList = [] := by
      rw [toL]
      show ¬ bytes S = []
      rw [hS']
      intro e
      exact body_pos h0 (by rw [e]; rfl)
     have e2 : S.toList.isEmpty = false := by simpa using e1
     go_wp2_with fail
     go_ret
     exact ⟨by rw [← e0.out]; rfl, hB⟩
end Go.Proofs.YtidihdiffiffmaaGreatDoor
namespace Go.Proofs.YtidihdiffiffmaaGreatDoor
open Go.RowKit
set_option maxRecDepth 8000
set_option linter.unusedSimpArgs false
set_option linter.unusedVariables false
set_option maxHeartbeats 1000000 in
theorem join_any (p n : ByteArray) (hp : p.size ≤ 1000000) (hn : n.size ≤ 1000000) (w : World) :
    Calls Tryz.prog 76 #[.string p, .string n] w fun e w' => e = .returned (.string (joinOf p n)) ∧ w' = w := by
 have b1 : ¬ 9223372036854775807 < 1 + n.size := by omega
 have b2 : ¬ 9223372036854775807 < p.size + 1 := by omega
 have b3 : ¬ 9223372036854775807 < p.size + 1 + n.size := by omega
 unfold joinOf
 cases h : eqs p slashS
 ·have hl := eqs_lit false h
  have hl2 : ¬ p.toList = [47] := by simpa using hl
  rw [if_neg (by simp)]
  go_enter Tryz.func76, Tryz.ntmps76
  go_wp2
  go_ret
  exact ⟨rfl, rfl⟩
 ·have hl := eqs_lit true h
  have hl2 : p.toList = [47] := by simpa using hl
  have hp2 : Aside (p = slashS) := eqs_iff.1 h
  rw [if_pos rfl]
  go_enter Tryz.func76, Tryz.ntmps76
  go_wp2
  go_ret
  exact ⟨by rw [hp2.out]; rfl, rfl⟩
end Go.Proofs.YtidihdiffiffmaaGreatDoor
namespace Go.Proofs.YtidihdiffiffmaaGreatDoor
set_option linter.unusedSimpArgs false
set_option linter.unusedVariables false
theorem occ_slash (l : List UInt8) (j : Nat) : Lib.occAt l [47] j = true ↔ l[j]? = some 47 := by
 have e : l[j]? = (l.drop j)[0]? := by rw [List.getElem?_drop]; rfl
 unfold Lib.occAt
 rw [e]
 cases l.drop j with
 | nil => simp
 | cons a t =>
  simp [List.isPrefixOf]
  exact eq_comm
theorem split_slash : ∀ (k : Nat) (t : ByteArray), Lib.countB t slashS = k → (∀ x ∈ Lib.splitB slashS 0 k t, Flat x) ∧ body (Lib.splitB slashS 0 k t) = 47 :: bytes t := by
 intro k
 induction k with
 | zero =>
  intro t hk
  rcases Lib.index_spec (bytes t) [47] with ⟨hm, hno⟩ | ⟨i, hi, hle, ho, hno⟩
  ·rw [Lib.splitB_zero]
   refine ⟨?_, by rw [body_one]⟩
   intro x hx
   simp at hx
   subst hx
   intro c hc e
   subst e
   obtain ⟨j, hj, he⟩ := List.mem_iff_getElem.1 hc
   have := hno j (by omega)
   rw [(occ_slash _ _).2 (by rw [List.getElem?_eq_getElem hj, he])] at this
   cases this
  ·have hx : Lib.indexB t slashS = i := hi
   rw [Lib.countB_hit t slashS i (by decide) hx] at hk
   omega
 | succ k ih =>
  intro t hk
  rcases Lib.index_spec (bytes t) [47] with ⟨hm, hno⟩ | ⟨i, hi, hle, ho, hno⟩
  ·have hx : Lib.indexB t slashS = -1 := hm
   rw [Lib.countB_miss t slashS hx] at hk
   omega
  ·have hx : Lib.indexB t slashS = i := hi
   have hc := Lib.countB_hit t slashS i (by decide) hx
   rw [Lib.splitB_hit slashS 0 k t i hx]
   obtain ⟨h1, h2⟩ := ih (t.extract (i + slashS.size) t.size) (by omega)
   refine ⟨?_, ?_⟩
   ·intro x hx
    rcases List.mem_cons.1 hx with rfl | hx
    ·intro c hc e
     subst e
     rw [bytes_extract, List.drop_zero] at hc
     obtain ⟨j, hj, he⟩ := List.mem_iff_getElem.1 hc
     rw [List.length_take] at hj
     rw [List.getElem_take] at he
     have := hno j (by omega)
     rw [(occ_slash _ _).2 (by rw [List.getElem?_eq_getElem (by omega), he])] at this
     cases this
    ·exact h1 x hx
   ·show 47 :: (bytes (t.extract 0 (i + 0)) ++ body (Lib.splitB slashS 0 k (t.extract (i + slashS.size) t.size))) = _
    rw [h2, bytes_extract, bytes_extract, List.drop_zero, List.take_of_length_le (Nat.le_of_eq (bytes_len t))]
    have hg := (occ_slash _ _).1 ho
    obtain ⟨hlt, hv⟩ := List.getElem?_eq_some_iff.1 hg
    congr 1
    conv => rhs; rw [← List.take_append_drop i (bytes t), List.drop_eq_getElem_cons hlt, hv]
    rfl
theorem head_pos {u : ByteArray} (h0 : (bytes u).getD 0 0 = 47) : ∃ t, bytes u = 47 :: t := by
 cases h : bytes u with
 | nil => rw [h] at h0; cases h0
 | cons a t =>
  rw [h] at h0
  simp at h0
  exact ⟨t, by rw [h0]⟩
theorem prefix_slash (u : ByteArray) : Lib.hasPrefix (bytes u) [47] = decide ((bytes u).getD 0 0 = 47) := by
 unfold Lib.hasPrefix
 cases bytes u with
 | nil => rfl
 | cons a t =>
  simp [List.isPrefixOf]
  by_cases h : a = 47
  ·simp [h]
  ·simp [h]; exact fun e => h e.symm
def trimS (u : ByteArray) : ByteArray := ⟨(Lib.trimPrefix (bytes u) [47]).toArray⟩
def ppartsOf (u : ByteArray) : List ByteArray := if eqs u slashS = true then [] else Lib.splitB slashS 0 (Lib.countB (trimS u) slashS) (trimS u)
theorem pparts_eq {u : ByteArray} (h0 : (bytes u).getD 0 0 = 47) : ppartsOf u = partsOf u := by
 obtain ⟨t, ht⟩ := head_pos h0
 unfold ppartsOf
 by_cases e : eqs u slashS = true
 ·rw [if_pos e, eqs_iff.1 e]
  rfl
 ·rw [if_neg e]
  have hs2 : 2 ≤ u.size := by
   rcases Nat.lt_or_ge u.size 2 with h | h
   ·exfalso
    apply e
    rw [eqs_bytes, bytes_slash, ht]
    rw [← bytes_len, ht] at h
    cases t with
    | nil => rfl
    | cons a b => simp at h; omega
   ·exact h
  obtain ⟨h1, h2⟩ := split_slash _ (trimS u) rfl
  obtain ⟨h3, _⟩ := parts_whole h0 hs2
  refine body_inj _ _ h1 (parts_flat u) ?_
  rw [h2, h3]
  have : bytes (trimS u) = t := by
   show Lib.trimPrefix (bytes u) [47] = t
   unfold Lib.trimPrefix
   rw [prefix_slash, h0, ht]
   rfl
  rw [this, ht]
theorem trim_size (u : ByteArray) : (trimS u).size ≤ u.size := by
 rw [← bytes_len, ← bytes_len]
 show (Lib.trimPrefix (bytes u) [47]).length ≤ _
 unfold Lib.trimPrefix
 split
 ·simp
 ·exact Nat.le_refl _
theorem body_mem_size : ∀ (l : List ByteArray) (x : ByteArray), x ∈ l → x.size ≤ (body l).length
 | [], x, h => by cases h
 | n :: r, x, h => by
  simp only [body, List.length_cons, List.length_append]
  rw [bytes_len]
  rcases List.mem_cons.1 h with rfl | h
  ·omega
  ·have := body_mem_size r x h
   omega
theorem pparts_small (u : ByteArray) : ∀ x ∈ ppartsOf u, x.size ≤ u.size + 1 := by
 intro x hx
 unfold ppartsOf at hx
 split at hx
 ·cases hx
 ·obtain ⟨_, h2⟩ := split_slash _ (trimS u) rfl
  have := body_mem_size _ x hx
  rw [h2, List.length_cons, bytes_len] at this
  have := trim_size u
  omega
theorem pcheck_eq (u : ByteArray) : (if 78 < u.size then (5 : Int) else if Lib.hasPrefix (bytes u) [47] = false then 1 else if 6 < (ppartsOf u).length then 1 else if (ppartsOf u).all name = true then 0 else 1) = checkOf u := by
 unfold checkOf
 rw [prefix_slash]
 by_cases h78 : 78 < u.size
 ·rw [if_pos h78, if_pos h78]
 rw [if_neg h78, if_neg h78]
 by_cases h0 : (bytes u).getD 0 0 = 47
 ·rw [if_neg (by rw [h0]; decide), pparts_eq h0]
  by_cases e : eqs u slashS = true
  ·rw [if_pos e]
   have hp : partsOf u = [] := by rw [eqs_iff.1 e]; rfl
   rw [hp]
   rfl
  ·rw [if_neg e, if_neg (c := u.size < 2 ∨ _)]
   rw [not_or]
   refine ⟨fun h => e ?_, fun h => h h0⟩
   obtain ⟨t, ht⟩ := head_pos h0
   rw [eqs_bytes, bytes_slash, ht]
   rw [← bytes_len, ht] at h
   cases t with
   | nil => rfl
   | cons a b => simp at h; omega
 ·rw [if_pos (by simpa using h0), if_neg (c := eqs u slashS = true), if_pos (.inr h0)]
  intro e
  rw [eqs_iff.1 e] at h0
  exact h0 rfl
end Go.Proofs.YtidihdiffiffmaaGreatDoor
namespace Go.Proofs.YtidihdiffiffmaaGreatDoor
open Go.RowKit Go.Shelf
def laysHas_ren : Go.Shelf.Ren := ⟨fun | 99 => 105 | 206 => 135 | n => n, fun | 9 => 9 | 4 => 4 | 3 => 3 | n => n, fun | n => n⟩
theorem laysHas : Go.Proofs.Lays.n99 Tryz.prog laysHas_ren := {
 mixed := by kernel_rfl
 f99 := Tryz.func105.trans (congrArg some (by kernel_rfl))
 f206 := Tryz.func135.trans (congrArg some (by kernel_rfl))
 t3 := Tryz.underlying3
 a3 := Tryz.isAgg3
 z3 := Tryz.sizeOf3
 v3 := Tryz.zeroValue3
 t4 := Tryz.underlying4
 a4 := Tryz.isAgg4
 z4 := Tryz.sizeOf4
 v4 := Tryz.zeroValue4
 t9 := Tryz.underlying9
 a9 := Tryz.isAgg9
 z9 := Tryz.sizeOf9
 v9 := Tryz.zeroValue9 }
def laysTrim_ren : Go.Shelf.Ren := ⟨fun | 101 => 108 | 208 => 137 | 206 => 135 | n => n, fun | 9 => 9 | 4 => 4 | 3 => 3 | n => n, fun | n => n⟩
theorem laysTrim : Go.Proofs.Lays.n101 Tryz.prog laysTrim_ren := {
 mixed := by kernel_rfl
 f101 := Tryz.func108.trans (congrArg some (by kernel_rfl))
 f206 := Tryz.func135.trans (congrArg some (by kernel_rfl))
 f208 := Tryz.func137.trans (congrArg some (by kernel_rfl))
 t3 := Tryz.underlying3
 a3 := Tryz.isAgg3
 z3 := Tryz.sizeOf3
 v3 := Tryz.zeroValue3
 t4 := Tryz.underlying4
 a4 := Tryz.isAgg4
 z4 := Tryz.sizeOf4
 v4 := Tryz.zeroValue4
 t9 := Tryz.underlying9
 a9 := Tryz.isAgg9
 z9 := Tryz.sizeOf9
 v9 := Tryz.zeroValue9 }
def laysSplit_ren : Go.Shelf.Ren := ⟨fun | 146 => 107 | 221 => 136 | 268 => 168 | 138 => 169 | 143 => 170 | 195 => 175 | 197 => 176 | 218 => 177 | 219 => 178 | 260 => 180 | 217 => 181 | 225 => 182 | 224 => 183 | 267 => 184 | 266 => 185 | 314 => 186 | n => n, fun | 9 => 9 | 31 => 39 | 3 => 3 | 4 => 4 | 0 => 0 | 105 => 228 | 21 => 21 | 5 => 5 | 46 => 166 | 119 => 232 | 139 => 235 | 138 => 234 | 146 => 236 | 51 => 167 | n => n, fun | 1 => 1 | 3 => 2 | 4 => 3 | n => n⟩
theorem laysSplit : Go.Proofs.Lays.n146 Tryz.prog laysSplit_ren := {
 mixed := by kernel_rfl
 f138 := Tryz.func169.trans (congrArg some (by kernel_rfl))
 f143 := Tryz.func170.trans (congrArg some (by kernel_rfl))
 f146 := Tryz.func107.trans (congrArg some (by kernel_rfl))
 f195 := Tryz.func175.trans (congrArg some (by kernel_rfl))
 f197 := Tryz.func176.trans (congrArg some (by kernel_rfl))
 f217 := Tryz.func181.trans (congrArg some (by kernel_rfl))
 f218 := Tryz.func177.trans (congrArg some (by kernel_rfl))
 f219 := Tryz.func178.trans (congrArg some (by kernel_rfl))
 f221 := Tryz.func136.trans (congrArg some (by kernel_rfl))
 f224 := Tryz.func183.trans (congrArg some (by kernel_rfl))
 f225 := Tryz.func182.trans (congrArg some (by kernel_rfl))
 f260 := Tryz.func180.trans (congrArg some (by kernel_rfl))
 f266 := Tryz.func185.trans (congrArg some (by kernel_rfl))
 f267 := Tryz.func184.trans (congrArg some (by kernel_rfl))
 f268 := Tryz.func168.trans (congrArg some (by kernel_rfl))
 f314 := Tryz.func186.trans (congrArg some (by kernel_rfl))
 t0 := Tryz.underlying0
 a0 := Tryz.isAgg0
 z0 := Tryz.sizeOf0
 v0 := Tryz.zeroValue0
 t3 := Tryz.underlying3
 a3 := Tryz.isAgg3
 z3 := Tryz.sizeOf3
 v3 := Tryz.zeroValue3
 t4 := Tryz.underlying4
 a4 := Tryz.isAgg4
 z4 := Tryz.sizeOf4
 v4 := Tryz.zeroValue4
 t5 := Tryz.underlying5
 a5 := Tryz.isAgg5
 z5 := Tryz.sizeOf5
 v5 := Tryz.zeroValue5
 t9 := Tryz.underlying9
 a9 := Tryz.isAgg9
 z9 := Tryz.sizeOf9
 v9 := Tryz.zeroValue9
 t21 := Tryz.underlying21
 a21 := Tryz.isAgg21
 z21 := Tryz.sizeOf21
 v21 := Tryz.zeroValue21
 t31 := Tryz.underlying39
 a31 := Tryz.isAgg39
 z31 := Tryz.sizeOf39
 v31 := Tryz.zeroValue39
 t46 := Tryz.underlying166
 a46 := Tryz.isAgg166
 z46 := Tryz.sizeOf166
 v46 := Tryz.zeroValue166
 t51 := Tryz.underlying167
 a51 := Tryz.isAgg167
 z51 := Tryz.sizeOf167
 v51 := Tryz.zeroValue167
 t105 := Tryz.underlying228
 a105 := Tryz.isAgg228
 z105 := Tryz.sizeOf228
 v105 := Tryz.zeroValue228
 t119 := Tryz.underlying232
 a119 := Tryz.isAgg232
 z119 := Tryz.sizeOf232
 t138 := Tryz.underlying234
 a138 := Tryz.isAgg234
 z138 := Tryz.sizeOf234
 v138 := Tryz.zeroValue234
 t139 := Tryz.underlying235
 a139 := Tryz.isAgg235
 z139 := Tryz.sizeOf235
 v139 := Tryz.zeroValue235
 t146 := Tryz.underlying236
 a146 := Tryz.isAgg236
 z146 := Tryz.sizeOf236
 v146 := Tryz.zeroValue236
 g1 := by kernel_rfl
 g3 := by kernel_rfl
 g4 := by kernel_rfl }
theorem hasPx_any (s p : ByteArray) (w : World) : Calls Tryz.prog 105 #[.string s, .string p] w fun e w' => e = .returned (.bool (Lib.hasPrefix (bytes s) (bytes p))) ∧ w' = w :=
 Any.strings_HasPrefix laysHas s p w
theorem trim_any (s : ByteArray) (w : World) : Calls Tryz.prog 108 #[.string s, .string ⟨#[47]⟩] w fun e w' => e = .returned (.string (trimS s)) ∧ w' = w :=
 Any.strings_TrimPrefix laysTrim s ⟨#[47]⟩ w
theorem split_any (s : ByteArray) (m : Int) (w : World) (hs : s.size ≤ 1000000) (hm : w.cell? ⟨1, 0, none⟩ = some (.int .i64 m)) :
    Calls Tryz.prog 107 #[.string s, .string ⟨#[47]⟩] w fun e w' =>
     e = .returned (.slice (some ⟨w.heap.size, 0, none⟩) (Lib.countB s slashS + 1) (Lib.countB s slashS + 1)) ∧ w' = w.alloc (.cells ((Lib.splitB slashS 0 (Lib.countB s slashS) s).map Value.string).toArray 9) :=
 Any.strings_Split laysSplit (by kernel_rfl) s slashS m w (by omega) hm (by decide)
end Go.Proofs.YtidihdiffiffmaaGreatDoor
namespace Go.Proofs.YtidihdiffiffmaaGreatDoor
open Go.RowKit
set_option maxRecDepth 8000
set_option linter.unusedSimpArgs false
set_option linter.unusedVariables false
def MaxV (w : World) : Prop := ∃ m, w.cell? ⟨1, 0, none⟩ = some (.int .i64 m)
theorem MaxV.below {w w' : World} (h : MaxV w) (b : Below w.heap.size w w') : MaxV w' := by
 obtain ⟨m, hm⟩ := h
 exact ⟨m, (b.cell (World.block_lt_of_cell? _ _ hm)).trans hm⟩
set_option maxHeartbeats 1000000 in
theorem parts_any (u : ByteArray) (hu : u.size ≤ 100000) (w : World) (hV : MaxV w) :
    Calls Tryz.prog 74 #[.string u] w fun e w' => ∃ v, e = .returned v ∧ OwnS w' w.heap.size v (ppartsOf u) ∧ Below w.heap.size w w' := by
 unfold ppartsOf
 cases h : eqs u slashS
 ·have hl := eqs_lit false h
  have hl2 : ¬ u.toList = [47] := by simpa using hl
  rw [if_neg (by simp)]
  obtain ⟨m, hm⟩ := hV
  have cT := trim_any u
  have hts := trim_size u
  obtain ⟨t, ht⟩ : ∃ t, trimS u = t := ⟨_, rfl⟩
  rw [ht] at cT hts ⊢
  have hlen := Lib.splitB_all slashS (by decide) 0 _ t rfl
  have hcl := Lib.countB_le slashS (by decide) t.size t (Nat.le_refl _)
  have cS := split_any t m w (by omega) hm
  obtain ⟨k, hk⟩ : ∃ k, Lib.countB t slashS = k := ⟨_, rfl⟩
  rw [hk] at cS hlen hcl ⊢
  obtain ⟨l, hl⟩ : ∃ l, Lib.splitB slashS 0 k t = l := ⟨_, rfl⟩
  rw [hl] at cS hlen ⊢
  have hown : OwnS (w.alloc (.cells (l.map Value.string).toArray 9)) w.heap.size (.slice (some ⟨w.heap.size, 0, none⟩) (k + 1) (k + 1)) l := by
   have := World.ownsRow_lit (base := w.heap.size) (e := 9) (size := 1) w (l.map Value.string).toArray (k + 1) (Nat.le_refl _) (by simp only [maxLen]; omega) (by simp; omega)
   unfold OwnS
   rw [hlen]
   simpa using this
  go_enter Tryz.func74, Tryz.ntmps74
  go_wp2_with fail
  refine (cT _).mono ?_
  rintro e w' ⟨rfl, hw'⟩
  have hw' := hw'.symm
  subst hw'
  go_wp2_with fail
  refine cS.mono ?_
  rintro e w' ⟨rfl, rfl⟩
  go_wp2_with fail
  go_ret
  exact ⟨_, rfl, hown, (Below.refl _ _).alloc (Nat.le_refl _) _⟩
 ·have hl := eqs_lit true h
  have hl2 : u.toList = [47] := by simpa using hl
  rw [if_pos rfl]
  go_enter Tryz.func74, Tryz.ntmps74
  go_wp2
  go_ret
  exact ⟨_, rfl, ownS_nil _ _, Below.refl _ _⟩
set_option maxHeartbeats 4000000 in
theorem pcheck_any (u : ByteArray) (hu : u.size ≤ 100000) (w : World) (hV : MaxV w) :
    Calls Tryz.prog 73 #[.string u] w fun e w' => e = .returned (.int .i64 (checkOf u)) ∧ Below w.heap.size w w' := by
 rw [← pcheck_eq]
 by_cases h78 : 78 < u.size
 ·rw [if_pos h78]
  have h1 : (78 : Int) < (u.size : Int) := by omega
  go_enter Tryz.func73, Tryz.ntmps73
  go_wp2
  go_ret
  exact ⟨rfl, Below.refl _ _⟩
 rw [if_neg h78]
 have cP := parts_any u (by omega) w hV
 have cH := fun W => hasPx_any u ⟨#[47]⟩ W
 have hsm := pparts_small u
 obtain ⟨ps, hps⟩ : ∃ ps, ppartsOf u = ps := ⟨_, rfl⟩
 rw [hps] at cP hsm ⊢
 obtain ⟨ln, hln⟩ : ∃ ln, ps.length = ln := ⟨_, rfl⟩
 have hpe : bytes ⟨#[47]⟩ = [47] := rfl
 rw [hpe] at cH
 cases hpre : Lib.hasPrefix (bytes u) [47]
 ·rw [if_pos rfl]
  rw [hpre] at cH
  go_enter Tryz.func73, Tryz.ntmps73
  go_wp2_with fail
  refine cP.mono ?_
  rintro e w1 ⟨v, rfl, ho, hB⟩
  obtain ⟨a, cap, rfl⟩ := ho.slice hln
  go_wp2_with fail
  refine (cH _).mono ?_
  rintro e w' ⟨rfl, hw'⟩
  have hw' := hw'.symm
  subst hw'
  go_wp2_with fail
  go_ret
  exact ⟨rfl, hB⟩
 ·rw [if_neg (by simp)]
  rw [hpre] at cH
  obtain ⟨r, hr⟩ : ∃ r : Int, (if 6 < ps.length then (1 : Int) else if ps.all name = true then 0 else 1) = r := ⟨_, rfl⟩
  rw [hr]
  rw [hln] at hr
  go_enter Tryz.func73, Tryz.ntmps73
  go_wp2_with fail
  refine cP.mono ?_
  rintro e w1 ⟨v, rfl, ho, hB⟩
  obtain ⟨a, cap, rfl⟩ := ho.slice hln
  by_cases h6 : 6 < ln
  ·rw [if_pos h6] at hr
   subst hr
   go_wp2_with fail
   refine (cH _).mono ?_
   rintro e w' ⟨rfl, hw'⟩
   have hw' := hw'.symm
   subst hw'
   go_wp2_with fail
   go_ret
   exact ⟨rfl, hB⟩
  ·rw [if_neg h6] at hr
   go_wp2_with fail
   refine (cH _).mono ?_
   rintro e w' ⟨rfl, hw'⟩
   have hw' := hw'.symm
   subst hw'
   clear cH cP
   go_wp2_with fail
   go_loopw [21] (fun t21 wr => ∃ i : Nat, i ≤ ln ∧ t21 = .int .i64 (i : Int) ∧ Below w1.heap.size w1 wr ∧ Aside (r = if (ps.drop i).all name = true then 0 else 1)) (fun t21 _ => ln - (Go.RowKit.intOf t21).toNat)
   case atStart => exact ⟨0, by omega, rfl, Below.refl _ _, by rw [Aside, List.drop_zero, hr]⟩
   case round =>
    obtain ⟨i, hi, rfl, hBr, hall⟩ := hrel
    clear hr
    by_cases hlt : i < ln
    ·obtain ⟨x, hx⟩ : ∃ x, ps[i]? = some x := ⟨_, List.getElem?_eq_getElem (by omega)⟩
     obtain ⟨g, cap', hv, hc, _, _⟩ := (ho.below hBr).at hln hx
     injection hv with q1 q2 q3
     subst q1 q3
     have hxs := hsm x (List.mem_of_getElem? hx)
     have hd : (ps.drop i).all name = (name x && (ps.drop (i + 1)).all name) := by
      have hil := (List.getElem?_eq_some_iff.1 hx).1
      rw [List.drop_eq_getElem_cons hil, List.all_cons, (List.getElem?_eq_some_iff.1 hx).2]
     rw [hd] at hall
     have cN := name_any x (by omega)
     cases hnx : name x
     ·rw [hnx] at hall cN
      obtain rfl : r = 1 := by rw [hall.out]; simp
      as_aux_lemma =>
       go_wp2_with fail
       refine (cN _).mono ?_
       rintro e w' ⟨rfl, hB2⟩
       go_wp2_with fail
       go_ret
       exact ⟨rfl, Below.then (Below.then hB hBr) hB2⟩
     ·rw [hnx, Bool.true_and] at hall
      rw [hnx] at cN
      as_aux_lemma =>
       go_wp2_with fail
       refine (cN _).mono ?_
       rintro e w' ⟨rfl, hB2⟩
       go_wp2_with fail
       exact ⟨⟨i + 1, by omega, by simp, Below.then hBr hB2, hall⟩, by simp [Go.RowKit.intOf]; omega⟩
    ·obtain rfl : r = 0 := by
       rw [hall.out, List.drop_eq_nil_of_le (by omega)]
       rfl
     as_aux_lemma =>
      go_wp2_with fail
      go_ret
      exact ⟨rfl, Below.then hB hBr⟩
end Go.Proofs.YtidihdiffiffmaaGreatDoor
namespace Go.Proofs.YtidihdiffiffmaaGreatDoor
open Go.ChangeShapes Go.WideShapes Go.ChangeAt Go.RowKit
set_option maxRecDepth 8000
set_option linter.unusedVariables false
set_option linter.unusedSimpArgs false
theorem int_und : Tryz.prog.underlying 3 = some (.int .i64) := by kernel_rfl
theorem glob_size : Tryz.prog.globals.size = 4 := by kernel_rfl
theorem maxV_shaped {W : World} (hsh : W.ShapedOpen Tryz.prog) : MaxV W :=
 cell_of_shapedOpen_int hsh (t := 3) (zero := #[.int .i64 0]) (by rw [glob_size]; decide) (by kernel_rfl) (by kernel_rfl) (by kernel_rfl) (by kernel_rfl) int_und
variable {H : Type} {enc : TypeId × Value → H}
theorem returns_all {a : Assume} {C : Checked} {os : Os} {f : FuncId} {fn : Func} {s : ChangeSpec} {conds : List PathCond} {apart fresh handsOn again : Bool} {X : World → Array Value → Prop}
    (hX : ∀ (w w' : World) (args : Array Value), w.heap = w'.heap → X w args → X w' args)
    (own : ownKnob C.prog.godebug = none) (started : os.Started) (noInit : C.prog.inits.idxOf? f = none) (hfn : C.prog.funcs[f]? = some fn)
    (witness : ∃ (w : World) (tape : Tape) (i : Input), w.os = os ∧ (w.forCall tape i).Shaped C.prog ∧ i.vars = [] ∧ Input.okWide C.prog (w.forCall tape i) .any w.heap.size f i ∧
     ((s.pre enc C.prog fn conds apart (w.forCall tape i).memory i.args ∧ X (w.forCall tape i).memory i.args) ∧ sizedMet enc C.prog fn (OpenSpec.ofChange s) apart (w.forCall tape i).memory i.args) ∧ a.holds C.prog (lone (Frame.enter C.prog f i.args .normal) [] (w.forCall tape i)))
    (contract : ∀ (W : World) (base : Nat) (args : Array Value) (ds gs : List (DataW H)) (before : List MemPlace),
     (∀ (j : Nat) t v, fn.params[j]? = some t → args[j]? = some v → Value.okWide C.prog W .any base t v) →
     DataW.Whole enc C.prog fn.params.toList s.vars apart W args.toList ds gs before → X W args → W.ShapedOpen C.prog →
     (DataW.weightsEach C.prog (fn.params.toList ++ s.plain.varTypes C.prog) (ds ++ gs)).all (· ≤ reachBytes) = true →
     Calls C.prog f args W fun e W' => ∃ v, e = .returned v ∧ s.post enc C.prog fn apart fresh handsOn again W args v W') :
    ReturnsInHanded a C os f .any (fun w args => (s.pre enc C.prog fn conds apart w args ∧ X w args) ∧ sizedMet enc C.prog fn (OpenSpec.ofChange s) apart w args) (s.post enc C.prog fn apart fresh handsOn again) := by
 refine returnsInHanded_of_calls own started noInit witness ?_
 intro w tape i _ hsh _ hok hpre hholds
 obtain ⟨_, _, _, fn', hfn', _, _, _, _, hval⟩ := hok
 have e : fn' = fn := Option.some.inj (hfn'.symm.trans hfn)
 subst e
 obtain ⟨⟨⟨ds, gs, before, hw, hc⟩, hx⟩, hz⟩ := hpre
 have hw' := DataW.Whole.of_heap (w' := w.forCall tape i) (by rfl) hw
 refine (contract (w.forCall tape i) w.heap.size i.args ds gs before hval hw' (hX _ _ _ (by rfl) hx) hsh (hz.weights hw)).mono fun e W' ⟨v, he, hp⟩ => ?_
 subst he
 exact ChangeSpec.post_blind hp
end Go.Proofs.YtidihdiffiffmaaGreatDoor
namespace Go.Proofs.YtidihdiffiffmaaGreatDoor
open Go.RowKit
set_option maxRecDepth 8000
set_option linter.unusedSimpArgs false
set_option linter.unusedVariables false
structure Ins where
 o : Int
 p : Int
 n : Int
abbrev Ins.v (i : Ins) : Value := .agg #[.int .i64 i.o, .int .i64 i.p, .int .i64 i.n]
abbrev ins3 (i : Ins) : List Value := [.int .i64 i.o, .int .i64 i.p, .int .i64 i.n]
def insE (i : Ins) : Int := if i.o < 0 ∨ 22 < i.o then 3 else if i.p < 0 ∨ 3 < i.p ∨ i.n < -2147483648 ∨ 2147483647 < i.n then 1 else 0
def insW (i : Ins) : Int := if insE i = 0 then i.o * 72057594037927936 + i.p * 281474976710656 + i.n % 4294967296 else 0
def u64 (w : Int) : Int := w % 18446744073709551616
def wOp (w : Int) : Int := u64 w / 72057594037927936
def wP (w : Int) : Int := u64 w / 281474976710656 % 256
def wMid (w : Int) : Int := u64 w / 4294967296 % 65536
def wLow (w : Int) : Int := u64 w % 4294967296
def wN (w : Int) : Int := if wLow w < 2147483648 then wLow w else wLow w - 4294967296
def decE (w : Int) : Int := if 22 < wOp w then 3 else if 3 < wP w then 1 else if wMid w ≠ 0 then 11 else 0
def decI (w : Int) : Ins := if decE w = 0 then ⟨wOp w, wP w, wN w⟩ else ⟨0, 0, 0⟩
def goodI (i : Ins) : Ins := ⟨i.o % 23, i.p % 4, i.n % 4294967296 - 2147483648⟩
theorem insE_zero {i : Ins} : insE i = 0 ↔ (0 ≤ i.o ∧ i.o ≤ 22) ∧ 0 ≤ i.p ∧ i.p ≤ 3 ∧ -2147483648 ≤ i.n ∧ i.n ≤ 2147483647 := by
 unfold insE
 constructor
 ·intro h
  split at h
  ·cases h
  ·split at h
   ·cases h
   ·omega
 ·intro h
  rw [if_neg (by omega), if_neg (by omega)]
theorem decE_zero {w : Int} : decE w = 0 ↔ wOp w ≤ 22 ∧ wP w ≤ 3 ∧ wMid w = 0 := by
 unfold decE
 constructor
 ·intro h
  split at h
  ·cases h
  ·split at h
   ·cases h
   ·split at h
    ·cases h
    ·omega
 ·rintro ⟨h1, h2, h3⟩
  rw [if_neg (by omega), if_neg (by omega), if_neg (by omega)]
theorem insW_eq {i : Ins} (h : insE i = 0) : insW i = i.o * 72057594037927936 + i.p * 281474976710656 + i.n % 4294967296 := by unfold insW; rw [if_pos h]
theorem insW_range {i : Ins} : 0 ≤ insW i ∧ insW i < 1657324662872342528 := by
 unfold insW
 split
 ·rename_i h
  have := insE_zero.1 h
  omega
 ·omega
theorem enc_dec {w : Int} (hw : -9223372036854775808 ≤ w ∧ w ≤ 9223372036854775807) (h : decE w = 0) : insE (decI w) = 0 ∧ insW (decI w) = w := by
 obtain ⟨h1, h2, h3⟩ := decE_zero.1 h
 have hd : decI w = ⟨wOp w, wP w, wN w⟩ := by unfold decI; rw [if_pos h]
 have hu0 : 0 ≤ u64 w := by unfold u64; omega
 have hn : -2147483648 ≤ wN w ∧ wN w ≤ 2147483647 ∧ wN w % 4294967296 = wLow w := by
  unfold wN wLow
  split <;> omega
 have hz : insE (decI w) = 0 := by
  rw [hd]
  exact insE_zero.2 ⟨⟨by show 0 ≤ wOp w; unfold wOp; omega, h1⟩, by show 0 ≤ wP w; unfold wP; omega, h2, hn.1, hn.2.1⟩
 refine ⟨hz, ?_⟩
 rw [insW_eq hz, hd]
 show wOp w * 72057594037927936 + wP w * 281474976710656 + wN w % 4294967296 = w
 rw [hn.2.2]
 unfold wLow wMid wP wOp u64 at *
 omega
/-! Pointers. -/
structure Ptr where
 s : Int
 f : Int
 r : Int
abbrev Ptr.v (p : Ptr) : Value := .agg #[.int .i64 p.s, .int .i64 p.f, .int .i64 p.r]
abbrev ptr3 (p : Ptr) : List Value := [.int .i64 p.s, .int .i64 p.f, .int .i64 p.r]
def ptrW (p : Ptr) : Int := (p.r % 8) * 281474976710656 + (p.s % 65536) * 4294967296 + p.f % 4294967296
def wPtr (w : Int) : Ptr := ⟨wMid w, wLow w, u64 w / 281474976710656 % 8⟩
/-! Texts. -/
def opNames : List (List UInt8) := [[104, 97, 108, 116], [108, 100, 97], [115, 116, 97], [108, 100, 105], [97, 100, 100], [115, 117, 98], [109, 117, 108], [102, 97, 100, 100], [102, 115, 117, 98], [102, 109, 117, 108], [102, 100, 105, 118], [102, 108, 101, 115, 115], [102, 108, 116], [102, 105, 120], [106, 109, 112], [106, 122], [106, 110], [115, 101, 116, 112], [108, 100, 112], [103, 101, 116, 112], [99, 97, 108, 108], [114, 101, 116], [111, 117, 116]]
def opL (o : Int) : List UInt8 := opNames.getD o.toNat []
def insT (i : Ins) : List UInt8 := opL i.o ++ 32 :: (Lib.itoa i.p ++ 32 :: Lib.itoa i.n)
def insB (i : Ins) : ByteArray := ⟨(insT i).toArray⟩
theorem opL_fin : ∀ k : Fin 23, (32 : UInt8) ∉ opL ((k : Nat) : Int) ∧ (opL ((k : Nat) : Int)).length ≤ 5 := by decide +kernel
theorem opL_inj : ∀ j k : Fin 23, opL ((j : Nat) : Int) = opL ((k : Nat) : Int) → j = k := by decide +kernel
theorem op_fin {o : Int} (h0 : 0 ≤ o) (h1 : o ≤ 22) : ∃ k : Fin 23, o = ((k : Nat) : Int) := ⟨⟨o.toNat, by omega⟩, by show o = ((o.toNat : Nat) : Int); omega⟩
theorem op_no32 {o : Int} (h0 : 0 ≤ o) (h1 : o ≤ 22) : (32 : UInt8) ∉ opL o := by
 obtain ⟨k, rfl⟩ := op_fin h0 h1
 exact (opL_fin k).1
theorem dig_step (n : Nat) (h : 10 ≤ n) : Lib.decDigits n = Lib.decDigits (n / 10) ++ Lib.decDigits (n % 10) := by
 have h2 : n % 10 < 10 := Nat.mod_lt _ (by decide)
 rw [Lib.decDigits, dif_neg (by omega), Lib.decDigits.eq_def (n % 10), dif_pos h2]
theorem dig_one (n : Nat) (h : n < 10) : Lib.decDigits n = [UInt8.ofNat (48 + n)] := by
 rw [Lib.decDigits, dif_pos h]
def dval (l : List UInt8) : Nat := l.foldl (fun a c => a * 10 + (c.toNat - 48)) 0
theorem dval_snoc (l : List UInt8) (c : UInt8) : dval (l ++ [c]) = dval l * 10 + (c.toNat - 48) := by
 unfold dval
 rw [List.foldl_append]
 rfl
theorem dig_val : ∀ n : Nat, dval (Lib.decDigits n) = n := fun n => by
 induction n using Nat.strongRecOn with
 | ind n ih =>
  by_cases h : n < 10
  ·rw [dig_one n h]
   have : (UInt8.ofNat (48 + n)).toNat = 48 + n := by simp; omega
   show 0 * 10 + ((UInt8.ofNat (48 + n)).toNat - 48) = n
   rw [this]
   omega
  ·rw [dig_step n (by omega), dig_one (n % 10) (Nat.mod_lt _ (by decide)), dval_snoc, ih (n / 10) (by omega)]
   have : (UInt8.ofNat (48 + n % 10)).toNat = 48 + n % 10 := by simp; omega
   rw [this]
   omega
theorem dig_mem : ∀ n : Nat, ∀ c ∈ Lib.decDigits n, 48 ≤ c.toNat ∧ c.toNat ≤ 57 := fun n => by
 induction n using Nat.strongRecOn with
 | ind n ih =>
  intro c hc
  by_cases h : n < 10
  ·rw [dig_one n h] at hc
   have hc := List.mem_singleton.1 hc
   subst hc
   have : (UInt8.ofNat (48 + n)).toNat = 48 + n := by simp; omega
   omega
  ·rw [dig_step n (by omega), List.mem_append] at hc
   rcases hc with hc | hc
   ·exact ih _ (by omega) c hc
   ·exact ih _ (by omega) c hc
theorem dig_inj {m n : Nat} (h : Lib.decDigits m = Lib.decDigits n) : m = n := by rw [← dig_val m, h, dig_val]
theorem itoa_def (n : Int) : Lib.itoa n = if n < 0 then 45 :: Lib.decDigits n.natAbs else Lib.decDigits n.toNat := rfl
theorem dig_no {n : Nat} {c : UInt8} (hc : c.toNat < 48) : c ∉ Lib.decDigits n := fun h => by
 have := (dig_mem n c h).1
 omega
theorem itoa_no32 (n : Int) : (32 : UInt8) ∉ Lib.itoa n := by
 rw [itoa_def]
 split
 ·intro h
  rcases List.mem_cons.1 h with h | h
  ·cases h
  ·exact dig_no (by decide) h
 ·exact dig_no (by decide)
theorem itoa_inj {m n : Int} (h : Lib.itoa m = Lib.itoa n) : m = n := by
 rw [itoa_def, itoa_def] at h
 by_cases hm : m < 0
 ·rw [if_pos hm] at h
  by_cases hn : n < 0
  ·rw [if_pos hn] at h
   have := dig_inj (List.cons.inj h).2
   omega
  ·rw [if_neg hn] at h
   exact absurd (h ▸ List.mem_cons_self) (dig_no (c := 45) (by decide))
 ·rw [if_neg hm] at h
  by_cases hn : n < 0
  ·rw [if_pos hn] at h
   exact absurd (h.symm ▸ List.mem_cons_self) (dig_no (c := 45) (by decide))
  ·rw [if_neg hn] at h
   have := dig_inj h
   omega
theorem cut32 : ∀ {a b a' b' : List UInt8}, (32 : UInt8) ∉ a → (32 : UInt8) ∉ a' → a ++ 32 :: b = a' ++ 32 :: b' → a = a' ∧ b = b'
 | [], b, [], b', _, _, h => ⟨rfl, (List.cons.inj h).2⟩
 | [], b, x :: a', b', _, h2, h => absurd ((List.cons.inj h).1 ▸ List.mem_cons_self) h2
 | x :: a, b, [], b', h1, _, h => absurd ((List.cons.inj h).1 ▸ List.mem_cons_self) h1
 | x :: a, b, y :: a', b', h1, h2, h => by
  obtain ⟨e, h⟩ := List.cons.inj h
  obtain ⟨e1, e2⟩ := cut32 (fun q => h1 (List.mem_cons_of_mem _ q)) (fun q => h2 (List.mem_cons_of_mem _ q)) h
  exact ⟨by rw [e, e1], e2⟩
theorem ins_inj {i j : Ins} (hi : 0 ≤ i.o ∧ i.o ≤ 22) (hj : 0 ≤ j.o ∧ j.o ≤ 22) (h : insT i = insT j) : i = j := by
 obtain ⟨e1, h2⟩ := cut32 (op_no32 hi.1 hi.2) (op_no32 hj.1 hj.2) h
 obtain ⟨e2, e3⟩ := cut32 (itoa_no32 _) (itoa_no32 _) h2
 have h4 := itoa_inj e2
 have h5 := itoa_inj e3
 obtain ⟨k1, q1⟩ := op_fin hi.1 hi.2
 obtain ⟨k2, q2⟩ := op_fin hj.1 hj.2
 rw [q1, q2] at e1
 have := opL_inj _ _ e1
 cases i; cases j
 simp only at q1 q2 h4 h5
 rw [q1, q2, h4, h5, this]
def IsT (s : ByteArray) (i : Ins) : Prop := insE i = 0 ∧ insB i = s
theorem IsT.uniq {s : ByteArray} {i j : Ins} (h : IsT s i) (k : IsT s j) : i = j := by
 refine ins_inj (insE_zero.1 h.1).1 (insE_zero.1 k.1).1 ?_
 have := h.2.trans k.2.symm
 unfold insB at this
 have := congrArg (fun b : ByteArray => b.data.toList) this
 simpa using this
end Go.Proofs.YtidihdiffiffmaaGreatDoor
namespace Go.Proofs.YtidihdiffiffmaaGreatDoor
open Go.RowKit
set_option maxRecDepth 8000
set_option linter.unusedSimpArgs false
set_option linter.unusedVariables false
theorem alloc_below (w : World) (o : Obj) : Below w.heap.size w (w.alloc o) := (Below.refl _ _).alloc (Nat.le_refl _) _
structure Lab where
 s : Int
 c : Int
 i : Int
 k : Int
abbrev Lab.v (l : Lab) : Value := .agg #[.int .i64 l.s, .int .i64 l.c, .int .i64 l.i, .int .i64 l.k]
def gmax (a b : Int) : Int := if b > a then b else a
def gmin (a b : Int) : Int := if b < a then b else a
def joinL (a b : Lab) : Lab := ⟨gmax a.s b.s, bits .or .i64 a.c b.c, gmin a.i b.i, bits .and .i64 a.k b.k⟩
def goodL (l : Lab) : Lab := ⟨l.s % 4, l.c % 256, l.i % 4, l.k % 256⟩
def bottomL : Lab := ⟨0, 0, 3, 255⟩
theorem und : Tryz.prog.underlying 30 = some (.struct (Tryz.prog.fieldsOf 30)) := by kernel_rfl
set_option maxHeartbeats 400000 in
theorem lw_any (k m : Int) (h0 : 0 < m) (h1 : m < 1000000) (w : World) :
    Calls Tryz.prog 82 #[.int .i64 k, .int .i64 m] w fun e w' => e = .returned (.int .i64 (k % m)) ∧ w' = w := by
 have b1 := Int.lt_tmod_of_pos k h0
 have b2 := Int.tmod_lt_of_pos k h0
 have hm0 : ¬ m = 0 := by omega
 have hm1 : ¬ m = -1 := by omega
 by_cases hn : k.tmod m < 0
 ·have e1 : k % m = k.tmod m + m := by
    rw [Int.tmod_eq_emod] at hn ⊢
    split at hn
    ·have := Int.emod_nonneg k (by omega : m ≠ 0); omega
    ·rename_i hc; rw [if_neg hc]; rw [Int.natAbs_of_nonneg (by omega)]; omega
  rw [e1]
  clear e1
  go_enter Tryz.func82, Tryz.ntmps82
  go_wp2
  go_ret
  exact ⟨rfl, rfl⟩
 ·have e1 : k % m = k.tmod m := by
    rw [Int.tmod_eq_emod] at hn ⊢
    split
    ·simp
    ·rename_i hc
     rw [if_neg hc] at hn
     have := Int.emod_lt_of_pos k h0
     rw [Int.natAbs_of_nonneg (by omega)] at *
     omega
  rw [e1]
  clear e1
  go_enter Tryz.func82, Tryz.ntmps82
  go_wp2
  go_ret
  exact ⟨rfl, rfl⟩
theorem below3 (w : World) (a b c : Obj) : Below w.heap.size w (((w.alloc a).alloc b).alloc c) :=
 (((Below.refl _ _).alloc (Nat.le_refl _) _).alloc (by simp) _).alloc (by simp; omega) _
set_option maxHeartbeats 400000 in
theorem ljoin_any (a b : Lab) (w : World) :
    Calls Tryz.prog 111 #[a.v, b.v] w fun e w' => e = .returned (joinL a b).v ∧ Below w.heap.size w w' := by
 go_enter Tryz.func111, Tryz.ntmps111
 go_wp2
 all_goals (refine bodyPost_ret (v := (joinL a b).v) (by simp [results, Tryz.results111, go_sem, joinL, gmax, gmin, *] <;> omega) rfl ⟨rfl, below3 _ _ _ _⟩)
theorem below2 (w : World) (a b : Obj) : Below w.heap.size w ((w.alloc a).alloc b) := ((Below.refl _ _).alloc (Nat.le_refl _) _).alloc (by simp) _
set_option maxHeartbeats 400000 in
theorem good_any (l : Lab) (w : World) :
    Calls Tryz.prog 45 #[l.v] w fun e w' => e = .returned (goodL l).v ∧ Below w.heap.size w w' := by
 go_enter Tryz.func45, Tryz.ntmps45
 go_wp2_with fail
 go_region_held (fun W => W.cell? ⟨w.heap.size, 0, none⟩ = some (.int .i64 l.s) ∧ W.cell? ⟨w.heap.size, 1, none⟩ = some (.int .i64 l.c) ∧ W.cell? ⟨w.heap.size, 2, none⟩ = some (.int .i64 l.i) ∧ W.cell? ⟨w.heap.size, 3, none⟩ = some (.int .i64 l.k)) (go_keep)
  (first | (go_at_call 82; refine (lw_any _ _ (by decide) (by decide) _).mono ?_; rintro e w' ⟨rfl, rfl⟩) | fail)
 go_wp2
 exact bodyPost_ret (v := (goodL l).v) (by simp [results, Tryz.results45, go_sem, goodL]) rfl ⟨rfl, (below2 _ _ _).drew⟩
def labEq (x y : Lab) : Bool := x.s == y.s && (x.c == y.c && (x.i == y.i && x.k == y.k))
theorem labEq_iff (x y : Lab) : labEq x y = true ↔ x = y := by
 cases x; cases y; simp [labEq]
theorem run_eql_lab (x y : Lab) (w : World) : (binOp .eql 30 x.v y.v).run Tryz.prog w = .ok (.bool (labEq x y)) w := by
 have e : labEq x y = (x.s == y.s && (x.c == y.c && (x.i == y.i && x.k == y.k))) := rfl
 rw [e]
 go_simp
 repeat' split
 all_goals simp_all
theorem run_neq_lab (x y : Lab) (w : World) : (binOp .neq 30 x.v y.v).run Tryz.prog w = .ok (.bool (!labEq x y)) w := by
 have e : labEq x y = (x.s == y.s && (x.c == y.c && (x.i == y.i && x.k == y.k))) := rfl
 rw [e]
 go_simp
 repeat' split
 all_goals simp_all
abbrev Boxed (W : World) (g : Nat) (l : Lab) : Prop := W.cell? ⟨g, 0, none⟩ = some (.int .i64 l.s) ∧ W.cell? ⟨g, 1, none⟩ = some (.int .i64 l.c) ∧ W.cell? ⟨g, 2, none⟩ = some (.int .i64 l.i) ∧ W.cell? ⟨g, 3, none⟩ = some (.int .i64 l.k)
theorem Boxed.keep {W W' : World} {g : Nat} {l : Lab} (h : Boxed W g l) (hb : Below W.heap.size W W') : Boxed W' g l := by
 obtain ⟨a, b, c, d⟩ := h
 have hg := World.block_lt_of_cell? _ _ a
 exact ⟨(hb.cell (p := ⟨g, 0, none⟩) hg).trans a, (hb.cell (p := ⟨g, 1, none⟩) hg).trans b, (hb.cell (p := ⟨g, 2, none⟩) hg).trans c, (hb.cell (p := ⟨g, 3, none⟩) hg).trans d⟩
theorem keep2 {W W' : World} {g g' : Nat} {l l' : Lab} (hb : Below W.heap.size W W') (h : Boxed W g l ∧ Boxed W g' l') : Boxed W' g l ∧ Boxed W' g' l' := ⟨h.1.keep hb, h.2.keep hb⟩
theorem boxed_alloc (w : World) (l : Lab) : Boxed (w.alloc (.cells #[.int .i64 l.s, .int .i64 l.c, .int .i64 l.i, .int .i64 l.k] 30)) w.heap.size l := by
 refine ⟨?_, ?_, ?_, ?_⟩ <;> simp [World.cell?_alloc_at]
def inB (n m : Int) : Bool := decide (0 ≤ n) && decide (n ≤ m)
set_option maxHeartbeats 400000 in
theorem lover_any (a b : Lab) (w : World) :
    Calls Tryz.prog 78 #[a.v, b.v] w fun e w' => e = .returned (.bool (labEq (joinL a b) a)) ∧ Below w.heap.size w w' := by
 have heq := run_eql_lab
 have hS := keep2 (Below.refl _ _).drew ⟨(boxed_alloc w a).keep ((Below.refl _ _).alloc (Nat.le_refl _) (.cells #[.int .i64 b.s, .int .i64 b.c, .int .i64 b.i, .int .i64 b.k] 30)), boxed_alloc (w.alloc (.cells #[.int .i64 a.s, .int .i64 a.c, .int .i64 a.i, .int .i64 a.k] 30)) b⟩
 have hz : (w.alloc (.cells #[.int .i64 a.s, .int .i64 a.c, .int .i64 a.i, .int .i64 a.k] 30)).heap.size = w.heap.size + 1 := by simp
 rw [hz] at hS
 have hB := below2 w (.cells #[.int .i64 a.s, .int .i64 a.c, .int .i64 a.i, .int .i64 a.k] 30) (.cells #[.int .i64 b.s, .int .i64 b.c, .int .i64 b.i, .int .i64 b.k] 30)
 go_enter Tryz.func78, Tryz.ntmps78
 go_wp2_with fail
 generalize ((w.alloc (.cells #[.int .i64 a.s, .int .i64 a.c, .int .i64 a.i, .int .i64 a.k] 30)).alloc (.cells #[.int .i64 b.s, .int .i64 b.c, .int .i64 b.i, .int .i64 b.k] 30)) = W0 at hS hB ⊢
 go_region_held (fun W => Boxed W w.heap.size a ∧ Boxed W (w.heap.size + 1) b) (first | exact hS | exact keep2 (by assumption) (by assumption))
  (first | (go_at_call 111; refine (ljoin_any a b _).mono ?_; rintro e w1 ⟨rfl, hb⟩) | fail)
 go_wp2
 go_ret
 exact ⟨rfl, Below.then hB.drew hb⟩
def okL (l : Lab) : Bool := inB l.s 3 && inB l.c 255 && inB l.i 3 && inB l.k 255
def chkL (l : Lab) : Int := if okL l = true then 0 else 1
theorem ofInt_nat (a : Nat) (h : a < 9223372036854775808) : (BitVec.ofInt 64 (a : Int)).toNat = a := by
 rw [BitVec.ofInt_natCast, BitVec.toNat_ofNat]; exact Nat.mod_eq_of_lt (by omega)
theorem wrap_small (a : Nat) (h : a < 9223372036854775808) : IntKind.i64.wrap (a : Int) = (a : Int) := by
 rw [IntKind.wrap_i64]; omega
theorem bor (a b : Nat) (ha : a < 256) (hb : b < 256) : bits .or .i64 (a : Int) (b : Int) = ((a ||| b : Nat) : Int) := by
 have hx : a ||| b < 2 ^ 8 := Nat.or_lt_two_pow (by omega) (by omega)
 show IntKind.i64.wrap ((BitVec.ofInt 64 (a : Int) ||| BitVec.ofInt 64 (b : Int)).toNat : Int) = _
 rw [BitVec.toNat_or, ofInt_nat a (by omega), ofInt_nat b (by omega), wrap_small _ (by omega)]
theorem band (a b : Nat) (ha : a < 256) (hb : b < 256) : bits .and .i64 (a : Int) (b : Int) = ((a &&& b : Nat) : Int) := by
 have hx : a &&& b < 2 ^ 8 := Nat.and_lt_two_pow a (by omega)
 show IntKind.i64.wrap ((BitVec.ofInt 64 (a : Int) &&& BitVec.ofInt 64 (b : Int)).toNat : Int) = _
 rw [BitVec.toNat_and, ofInt_nat a (by omega), ofInt_nat b (by omega), wrap_small _ (by omega)]
structure GL (l : Lab) : Prop where
 s0 : 0 ≤ l.s
 s1 : l.s ≤ 3
 c0 : 0 ≤ l.c
 c1 : l.c ≤ 255
 i0 : 0 ≤ l.i
 i1 : l.i ≤ 3
 k0 : 0 ≤ l.k
 k1 : l.k ≤ 255
theorem good_GL (l : Lab) : GL (goodL l) := by
 constructor <;> simp only [goodL] <;> omega
theorem bottom_GL : GL bottomL := by constructor <;> decide
theorem GL.nat {l : Lab} (h : GL l) : ∃ s c i k : Nat, l = ⟨s, c, i, k⟩ ∧ s < 4 ∧ c < 256 ∧ i < 4 ∧ k < 256 := by
 obtain ⟨a, b, c, d, e, f, g, i⟩ := h
 obtain ⟨s, hs⟩ := Int.eq_ofNat_of_zero_le a
 obtain ⟨c', hc⟩ := Int.eq_ofNat_of_zero_le c
 obtain ⟨i', hi⟩ := Int.eq_ofNat_of_zero_le e
 obtain ⟨k', hk⟩ := Int.eq_ofNat_of_zero_le g
 refine ⟨s, c', i', k', ?_, by omega, by omega, by omega, by omega⟩
 cases l
 simp_all
structure NL where
 s : Nat
 c : Nat
 i : Nat
 k : Nat
def NL.lab (l : NL) : Lab := ⟨l.s, l.c, l.i, l.k⟩
def NL.ok (l : NL) : Prop := l.s < 4 ∧ l.c < 256 ∧ l.i < 4 ∧ l.k < 256
def NL.join (a b : NL) : NL := ⟨max a.s b.s, a.c ||| b.c, min a.i b.i, a.k &&& b.k⟩
def NL.bot : NL := ⟨0, 0, 3, 255⟩
theorem bot_lab : NL.bot.lab = bottomL := rfl
theorem bot_ok : NL.bot.ok := by simp [NL.bot, NL.ok]
theorem GL.nl {l : Lab} (h : GL l) : ∃ n : NL, l = n.lab ∧ n.ok :=
 let ⟨s, c, i, k, e, h1, h2, h3, h4⟩ := h.nat
 ⟨⟨s, c, i, k⟩, e, h1, h2, h3, h4⟩
theorem gmax_nat (a b : Nat) : gmax (a : Int) (b : Int) = ((max a b : Nat) : Int) := by unfold gmax; split <;> omega
theorem gmin_nat (a b : Nat) : gmin (a : Int) (b : Int) = ((min a b : Nat) : Int) := by unfold gmin; split <;> omega
theorem join_lab {a b : NL} (ha : a.ok) (hb : b.ok) : joinL a.lab b.lab = (a.join b).lab := by
 simp only [joinL, NL.lab, NL.join, gmax_nat, gmin_nat, bor _ _ ha.2.1 hb.2.1, band _ _ ha.2.2.2 hb.2.2.2]
theorem lab_inj {a b : NL} : a.lab = b.lab ↔ a = b := by
 cases a; cases b; simp only [NL.lab, Lab.mk.injEq, NL.mk.injEq]; omega
theorem join_ok {a b : NL} (ha : a.ok) (hb : b.ok) : (a.join b).ok := by
 obtain ⟨a1, a2, a3, a4⟩ := ha
 obtain ⟨b1, b2, b3, b4⟩ := hb
 refine ⟨by simp only [NL.join]; omega, Nat.or_lt_two_pow (n := 8) a2 b2, by simp only [NL.join]; omega, Nat.and_lt_two_pow (n := 8) _ b4⟩
theorem lab_GL {a : NL} (h : a.ok) : GL a.lab := by
 obtain ⟨a1, a2, a3, a4⟩ := h
 constructor <;> simp only [NL.lab] <;> omega
def NL.over (a b : NL) : Prop := a.join b = a
theorem over_iff {a b : NL} : a.over b ↔ b.s ≤ a.s ∧ a.c ||| b.c = a.c ∧ a.i ≤ b.i ∧ a.k &&& b.k = a.k := by
 cases a; cases b; simp only [NL.over, NL.join, NL.mk.injEq]; omega
theorem or_and (a b : Nat) : a ||| b = a ↔ a &&& b = b := by
 constructor
 ·intro h; rw [← h]; apply Nat.eq_of_testBit_eq; intro i; cases ha : a.testBit i <;> cases hb : b.testBit i <;> simp [ha, hb]
 ·intro h; rw [← h]; apply Nat.eq_of_testBit_eq; intro i; cases ha : a.testBit i <;> cases hb : b.testBit i <;> simp [ha, hb]
theorem join_comm (a b : NL) : a.join b = b.join a := by simp only [NL.join, NL.mk.injEq]; exact ⟨Nat.max_comm _ _, Nat.or_comm _ _, Nat.min_comm _ _, Nat.and_comm _ _⟩
theorem join_assoc (a b c : NL) : (a.join b).join c = a.join (b.join c) := by simp only [NL.join, NL.mk.injEq]; exact ⟨Nat.max_assoc _ _ _, Nat.or_assoc _ _ _, Nat.min_assoc _ _ _, Nat.and_assoc _ _ _⟩
theorem join_self (a : NL) : a.join a = a := by cases a; simp [NL.join]
theorem over_refl (a : NL) : a.over a := join_self a
theorem and_255 {a : Nat} (h : a < 256) : a &&& 255 = a := by
 rw [show 255 = 2 ^ 8 - 1 from rfl, Nat.and_two_pow_sub_one_eq_mod]; exact Nat.mod_eq_of_lt h
theorem over_bot {a : NL} (h : a.ok) : a.over NL.bot := by
 obtain ⟨a1, a2, a3, a4⟩ := h
 refine over_iff.2 ⟨Nat.zero_le _, by simp [NL.bot], by simp only [NL.bot]; omega, and_255 a4⟩
def ov (a b : Lab) : Bool := labEq (joinL a b) a
theorem ov_iff {a b : NL} (ha : a.ok) (hb : b.ok) : ov a.lab b.lab = true ↔ a.over b := by
 unfold ov; rw [labEq_iff, join_lab ha hb, lab_inj]; rfl
set_option maxHeartbeats 400000 in
theorem rljoin_any (a b : Lab) (w : World) :
    Calls Tryz.prog 49 #[a.v, b.v] w fun e w' => e = .returned (joinL a b).v ∧ Below w.heap.size w w' := by
 go_enter Tryz.func49, Tryz.ntmps49
 go_wp2
 all_goals (refine bodyPost_ret (v := (joinL a b).v) (by simp [results, Tryz.results49, go_sem, joinL, gmax, gmin, *] <;> omega) rfl ⟨rfl, below3 _ _ _ _⟩)
def rov (a b : Lab) : Bool := decide (a.s ≥ b.s) && (bits .and .i64 a.c b.c == b.c) && decide (a.i ≤ b.i) && (bits .and .i64 a.k b.k == a.k)
set_option maxHeartbeats 1000000 in
theorem rlover_any (a b : Lab) (w : World) :
    Calls Tryz.prog 51 #[a.v, b.v] w fun e w' => e = .returned (.bool (rov a b)) ∧ Below w.heap.size w w' := by
 cases h0 : decide (a.s ≥ b.s)
 ·have e : rov a b = false := by simp only [rov, h0]; simp
  rw [e]
  go_enter Tryz.func51, Tryz.ntmps51
  go_wp2
  go_ret
  exact ⟨rfl, below2 _ _ _⟩
 cases h1 : (bits .and .i64 a.c b.c == b.c)
 ·have e : rov a b = false := by simp only [rov, h0, h1]; simp
  rw [e]
  go_enter Tryz.func51, Tryz.ntmps51
  go_wp2
  go_ret
  exact ⟨rfl, below2 _ _ _⟩
 cases h2 : decide (a.i ≤ b.i)
 ·have e : rov a b = false := by simp only [rov, h0, h1, h2]; simp
  rw [e]
  go_enter Tryz.func51, Tryz.ntmps51
  go_wp2
  go_ret
  exact ⟨rfl, below2 _ _ _⟩
 have e : rov a b = (bits .and .i64 a.k b.k == a.k) := by simp only [rov, h0, h1, h2]; simp
 rw [e]
 go_enter Tryz.func51, Tryz.ntmps51
 go_wp2
 go_ret
 exact ⟨rfl, below2 _ _ _⟩
theorem rov_ov {A B : NL} (okA : A.ok) (okB : B.ok) : rov A.lab B.lab = ov A.lab B.lab := by
 rw [Bool.eq_iff_iff, ov_iff okA okB, over_iff, or_and]
 unfold rov NL.lab
 simp only [band _ _ okA.2.1 okB.2.1, band _ _ okA.2.2.2 okB.2.2.2, Bool.and_eq_true, decide_eq_true_eq, beq_iff_eq]
 omega
end Go.Proofs.YtidihdiffiffmaaGreatDoor
namespace Go.Proofs.YtidihdiffiffmaaGreatDoor
open Go.RowKit
set_option maxRecDepth 8000
set_option linter.unusedSimpArgs false
set_option linter.unusedVariables false
theorem bor63 (a b : Nat) (ha : a < 9223372036854775808) (hb : b < 9223372036854775808) : bits .or .i64 (a : Int) (b : Int) = ((a ||| b : Nat) : Int) := by
 have hx : a ||| b < 2 ^ 63 := Nat.or_lt_two_pow (by omega) (by omega)
 show IntKind.i64.wrap ((BitVec.ofInt 64 (a : Int) ||| BitVec.ofInt 64 (b : Int)).toNat : Int) = _
 rw [BitVec.toNat_or, ofInt_nat a (by omega), ofInt_nat b (by omega), wrap_small _ (by omega)]
theorem or_sum {x k b : Nat} (hb : b < 2 ^ k) : (x * 2 ^ k) ||| b = x * 2 ^ k + b := by
 have := Nat.shiftLeft_add_eq_or_of_lt hb x
 rw [Nat.shiftLeft_eq] at this
 exact this.symm
theorem or_parts {x : Int} {b : Int} (k : Nat) (m : Int) (hm : m = ((2 ^ k : Nat) : Int)) (hx : 0 ≤ x) (hb0 : 0 ≤ b) (hb : b < m) (hs : x * m + b < 9223372036854775808) : bits .or .i64 (x * m) b = x * m + b := by
 obtain ⟨xn, rfl⟩ := Int.eq_ofNat_of_zero_le hx
 obtain ⟨bn, rfl⟩ := Int.eq_ofNat_of_zero_le hb0
 subst hm
 have e1 : ((xn : Int) * ((2 ^ k : Nat) : Int)) = ((xn * 2 ^ k : Nat) : Int) := by rw [Int.natCast_mul]
 rw [e1] at hs ⊢
 have h1 : xn * 2 ^ k + bn < 9223372036854775808 := by omega
 rw [bor63 _ _ (by omega) (by omega), or_sum (by omega), Int.natCast_add]
theorem or_ins {o p n : Int} (h0 : 0 ≤ o) (h1 : o ≤ 22) (h2 : 0 ≤ p) (h3 : p ≤ 3) : bits .or .i64 (bits .or .i64 (o * 72057594037927936) (p * 281474976710656)) (n % 4294967296) = o * 72057594037927936 + p * 281474976710656 + n % 4294967296 := by
 rw [or_parts 56 72057594037927936 (by decide) h0 (by omega) (by omega) (by omega)]
 have e : o * 72057594037927936 + p * 281474976710656 = (o * 256 + p) * 281474976710656 := by omega
 have e2 : (o * 256 + p) * 281474976710656 = ((o * 256 + p) * 65536) * 4294967296 := by omega
 rw [e, e2]
 exact or_parts 32 4294967296 (by decide) (by omega) (by omega) (by omega) (by omega)
theorem or_ptr {r s f : Int} (h0 : 0 ≤ r) (h1 : r < 8) (h2 : 0 ≤ s) (h3 : s < 65536) : bits .or .i64 (bits .or .i64 (r * 281474976710656) (s * 4294967296)) (f % 4294967296) = r * 281474976710656 + s * 4294967296 + f % 4294967296 := by
 rw [or_parts 48 281474976710656 (by decide) h0 (by omega) (by omega) (by omega)]
 have e : r * 281474976710656 + s * 4294967296 = (r * 65536 + s) * 4294967296 := by omega
 rw [e]
 exact or_parts 32 4294967296 (by decide) (by omega) (by omega) (by omega) (by omega)
theorem ofInt_any (x : Int) : (BitVec.ofInt 64 x).toNat = (x % 18446744073709551616).toNat := by
 rw [BitVec.toNat_ofInt]
 rfl
theorem and_low (k x : Nat) : x &&& (2 ^ k - 1) = x % 2 ^ k := Nat.and_two_pow_sub_one_eq_mod x k
theorem mask_nat (k : Nat) (hk : k ≤ 62) (x : Int) : ((x % 18446744073709551616).toNat % 2 ^ k : Nat) = (x % ((2 ^ k : Nat) : Int)).toNat := by
 have hd : ((2 ^ k : Nat) : Int) ∣ 18446744073709551616 := by
  have : (18446744073709551616 : Int) = ((2 ^ 64 : Nat) : Int) := by decide
  rw [this]
  exact Int.natCast_dvd_natCast.2 (Nat.pow_dvd_pow 2 (by omega))
 have hp : (0 : Int) < ((2 ^ k : Nat) : Int) := by exact_mod_cast Nat.two_pow_pos k
 have h1 : x % 18446744073709551616 % ((2 ^ k : Nat) : Int) = x % ((2 ^ k : Nat) : Int) := Int.emod_emod_of_dvd x hd
 have h0 : 0 ≤ x % 18446744073709551616 := by omega
 rw [← h1]
 obtain ⟨u, hu⟩ := Int.eq_ofNat_of_zero_le h0
 rw [hu, Int.toNat_natCast, ← Int.natCast_emod, Int.toNat_natCast]
theorem and_u64 (k : Nat) (hk : k ≤ 62) (m c : Int) (hm : m = ((2 ^ k : Nat) : Int)) (hc : c = m - 1) (x : Int) : bits .and .u64 x c = x % m := by
 have hp : 0 < 2 ^ k := Nat.two_pow_pos k
 have hk63 : 2 ^ k < 9223372036854775808 := Nat.lt_of_le_of_lt (Nat.pow_le_pow_right (by decide) hk) (by decide)
 have ec : c = ((2 ^ k - 1 : Nat) : Int) := by rw [hc, hm]; omega
 subst ec
 show IntKind.u64.wrap ((BitVec.ofInt 64 x &&& BitVec.ofInt 64 ((2 ^ k - 1 : Nat) : Int)).toNat : Int) = _
 rw [BitVec.toNat_and, ofInt_nat (2 ^ k - 1) (by omega), ofInt_any, and_low, mask_nat k hk, ← hm]
 have h0 : 0 ≤ x % m := Int.emod_nonneg _ (by omega)
 have h1 : x % m < m := Int.emod_lt_of_pos _ (by omega)
 rw [Int.toNat_of_nonneg h0, IntKind.wrap_u64]
 omega
end Go.Proofs.YtidihdiffiffmaaGreatDoor
namespace Go.Proofs.YtidihdiffiffmaaGreatDoor
open Go.RowKit
set_option maxRecDepth 8000
set_option linter.unusedSimpArgs false
set_option linter.unusedVariables false
def Moved (w : World) (v v' : Value) : Prop := v'.ownBlock = v.ownBlock ∨ ∀ k, v'.ownBlock = some k → w.heap.size ≤ k
structure Grew (w : World) (v : Value) (w' : World) (v' : Value) : Prop where
 by_ : w.grownBy w' v.ownBlock
 at_ : Moved w v v'
theorem Grew.refl (w : World) (v : Value) : Grew w v w v := ⟨⟨rfl, rfl, rfl, Nat.le_refl _, fun _ _ _ => rfl⟩, .inl rfl⟩
theorem Grew.trans {w w1 w2 : World} {v v1 v2 : Value} (h : Grew w v w1 v1) (k : Grew w1 v1 w2 v2) : Grew w v w2 v2 := by
 refine ⟨⟨k.by_.os.trans h.by_.os, k.by_.tape.trans h.by_.tape, k.by_.output.trans h.by_.output, Nat.le_trans h.by_.size k.by_.size, fun j hj hne => ?_⟩, ?_⟩
 ·refine (k.by_.block j (Nat.lt_of_lt_of_le hj h.by_.size) ?_).trans (h.by_.block j hj hne)
  rcases h.at_ with e | e
  ·rw [e]; exact hne
  ·intro hq
   have := e j hq.symm
   omega
 ·rcases k.at_ with e | e
  ·rcases h.at_ with e' | e'
   ·exact .inl (e.trans e')
   ·exact .inr fun j hj => e' j (e ▸ hj)
  ·exact .inr fun j hj => Nat.le_trans h.by_.size (e j hj)
theorem Grew.alloc (w : World) (v : Value) (o : Obj) : Grew w v (w.alloc o) v := ⟨World.grownBy_alloc w o _, .inl rfl⟩
theorem Grew.drew {w w' : World} {v v' : Value} (h : Grew w v w' v') : Grew w v w'.drew v' := ⟨⟨h.by_.os, h.by_.tape, h.by_.output, h.by_.size, h.by_.block⟩, h.at_⟩
theorem Grew.cell {w w' : World} {v v' : Value} (h : Grew w v w' v') {a : Addr} (ha : a.block < w.heap.size) (hne : some a.block ≠ v.ownBlock) : w'.cell? a = w.cell? a := World.cell?_of_block (h.by_.block _ ha hne)
theorem Grew.apart {w w' : World} {v v' : Value} (h : Grew w v w' v') {g : Nat} (hg : g < w.heap.size) (hne : some g ≠ v.ownBlock) : some g ≠ v'.ownBlock := by
 rcases h.at_ with e | e
 ·rw [e]; exact hne
 ·intro hq
  have := e g hq.symm
  omega
theorem Grew.below {w w' : World} {v v' : Value} (h : Grew w v w' v') {base : Nat} (hb : base ≤ w.heap.size) (hv : ∀ k, v.ownBlock = some k → base ≤ k) : Below base w w' := (Below.refl base w).grown h.by_ hb hv
section
variable {P : Program} (w : World)
theorem run_append_grew (base : Nat) (t ty e : TypeId) (i : TypeInfo) (z : Value) (size bytes : Nat) (ht : P.underlying t = some (.slice e)) (hi : P.info? e = some i) (hz : i.zero = some z)
    (hsize : i.size = size) (hby : i.bytes = bytes) (hzs : z.cells.size = size) (hsz : 0 < size)
    (v : Value) (n : Nat) (xs : List Value) (hown : w.ownsRow base e size v n xs)
    (a : Addr) (m c : Nat) (news : List Value) (hl : news.length = m * size) (hnews : ∀ j u, news[j]? = some u → w.cell? (a.add j) = some u) (h1 : ∀ u ∈ news, u.oneCell' = true)
    (h63 : n + m ≤ maxLen) (hbytes : (n + m) * bytes ≤ 140737488355328) (hbase : base ≤ w.heap.size) :
    ∃ v' w', (Builtin.append_ #[t, t] ty #[v, .slice (some a) m c]).run P w = .ok v' w' ∧ w'.ownsRow base e size v' (n + m) (xs ++ news) ∧ Grew w v w' v' := by
 obtain ⟨v', w', hr, ho, hg, hq⟩ := run_append_own w base t ty e i z size bytes ht hi hz hsize hby hzs hsz v n xs hown a m c news hl hnews h1 h63 hbytes hbase
 refine ⟨v', w', hr, ho, hg, ?_⟩
 have hown' := hown
 rcases hown.2 with ⟨rfl, rfl⟩ | ⟨g, cap, cur, rfl, hbg, hgg, hnc, hcm, hcs, htake⟩
 ·have hx : xs = [] := List.eq_nil_of_length_eq_zero (by simpa using hown.1)
  subst hx
  obtain ⟨v2, w2, hr2, ho2, _⟩ := run_append_own w w.heap.size t ty e i z size bytes ht hi hz hsize hby hzs hsz (.slice none 0 0) 0 [] (World.ownsRow_nil _ _ _ _) a m c news hl hnews h1 h63 hbytes (Nat.le_refl _)
  rw [hr] at hr2
  injection hr2 with e1 e2
  subst e1
  exact .inr fun k hk => (ho2.lt k hk).1
 ·subst hsize
  by_cases hroom : n + m ≤ cap
  ·have hfit : n * i.size + news.length ≤ cur.size := by rw [hl, hcs, ← Nat.add_mul]; exact Nat.mul_le_mul_right _ hroom
   have hr2 := run_append_room (P := P) w t ty e i ht hi g n cap cur hgg a m c news hl hnews h1 hroom hfit
   rw [hr] at hr2
   injection hr2 with e1 e2
   subst e1
   exact .inl rfl
  ·have holds : ∀ j u, xs[j]? = some u → w.cell? ((⟨g, 0, none⟩ : Addr).add j) = some u := hown'.cells (g := g) rfl
   subst hby
   have hr2 := run_append_grow (P := P) w t ty e i z ht hi hz ⟨g, 0, none⟩ n cap xs hown'.1 holds a m c news hl hnews (by omega) (by simp only [maxLen] at h63; omega) (growslice_fits (by omega) hbytes)
   rw [hr] at hr2
   injection hr2 with e1 e2
   subst e1
   refine .inr fun k hk => ?_
   simp [Value.ownBlock] at hk
   omega
end
end Go.Proofs.YtidihdiffiffmaaGreatDoor
namespace Go.Proofs.YtidihdiffiffmaaGreatDoor
open Go.RowKit
set_option maxRecDepth 8000
set_option linter.unusedSimpArgs false
set_option linter.unusedVariables false
structure ElemOk {α : Type} (e t : TypeId) (sz : Nat) (f : α → List Value) : Prop where
 und : Tryz.prog.underlying t = some (.slice e)
 info : ∃ i z b, Tryz.prog.info? e = some i ∧ i.zero = some z ∧ i.size = sz ∧ i.bytes = b ∧ z.cells.size = sz ∧ b ≤ 10000
 pos : 0 < sz
 len : ∀ x, (f x).length = sz
 one : ∀ x, ∀ u ∈ f x, u.oneCell' = true
theorem info_of {e : TypeId} {z : Value} {sz b : Nat} (h : (Tryz.prog.info? e).map (fun i => (i.zero, i.size, i.bytes)) = some (some z, sz, b)) : ∃ i, Tryz.prog.info? e = some i ∧ i.zero = some z ∧ i.size = sz ∧ i.bytes = b := by
 cases hi : Tryz.prog.info? e with
 | none => rw [hi] at h; cases h
 | some i =>
  rw [hi] at h
  have hq : (i.zero, i.size, i.bytes) = (some z, sz, b) := Option.some.inj h
  exact ⟨i, rfl, congrArg Prod.fst hq, congrArg (fun p => p.2.1) hq, congrArg (fun p => p.2.2) hq⟩
theorem flat_at {α β : Type} {f : α → List β} {n : Nat} (hf : ∀ a, (f a).length = n) : ∀ (l : List α) (j k : Nat) (a : α), l[j]? = some a → k < n → (l.flatMap f)[j * n + k]? = (f a)[k]?
 | [], _, _, _, h, _ => by simp at h
 | b :: r, 0, k, a, h, hk => by
  simp at h
  subst h
  rw [List.flatMap_cons, Nat.zero_mul, Nat.zero_add, List.getElem?_append_left (by rw [hf]; exact hk)]
 | b :: r, j + 1, k, a, h, hk => by
  simp at h
  rw [List.flatMap_cons, List.getElem?_append_right (by rw [hf, Nat.succ_mul]; omega), hf, show (j + 1) * n + k - n = j * n + k by rw [Nat.succ_mul]; omega]
  exact flat_at hf r j k a h hk
theorem flat_length {α β : Type} {f : α → List β} {n : Nat} (hf : ∀ a, (f a).length = n) : ∀ l : List α, (l.flatMap f).length = l.length * n
 | [] => by simp
 | a :: r => by rw [List.flatMap_cons, List.length_append, hf, flat_length hf r, List.length_cons, Nat.succ_mul, Nat.add_comm]
def RowAt {α : Type} (sz : Nat) (f : α → List Value) (W : World) (a : Option Addr) (l : List α) : Prop := ∀ j x, l[j]? = some x → ∃ y, a = some y ∧ ∀ i, i < sz → W.cell? (y.add (j * sz + i)) = (f x)[i]?
section
variable {α : Type} {e t : TypeId} {sz : Nat} {f : α → List Value} {w w' W : World} {base b : Nat} {v v' : Value} {l : List α}
theorem RowAt.below {a : Option Addr} (hf : ∀ x, (f x).length = sz) (h : RowAt sz f w a l) (k : Below w.heap.size w w') : RowAt sz f w' a l := fun j x hx => by
 obtain ⟨y, hy, hc⟩ := h j x hx
 refine ⟨y, hy, fun i hi => ?_⟩
 have h1 := hc i hi
 obtain ⟨u, hu⟩ : ∃ u, (f x)[i]? = some u := ⟨_, List.getElem?_eq_getElem (by rw [hf]; exact hi)⟩
 rw [hu] at h1 ⊢
 exact (k.cell (World.block_lt_of_cell? _ _ h1)).trans h1
theorem RowAt.flat {a : Addr} (hf : ∀ x, (f x).length = sz) (hp : 0 < sz) (h : RowAt sz f w (some a) l) : ∀ j u, (l.flatMap f)[j]? = some u → w.cell? (a.add j) = some u := fun j u hu => by
 have hj := (List.getElem?_eq_some_iff.1 hu).1
 rw [flat_length hf] at hj
 have hq : j / sz < l.length := Nat.div_lt_of_lt_mul (by rw [Nat.mul_comm]; exact hj)
 have hm : j % sz < sz := Nat.mod_lt _ hp
 have hjm : j / sz * sz + j % sz = j := by rw [Nat.mul_comm]; exact Nat.div_add_mod j sz
 have hx : l[j / sz]? = some l[j / sz] := List.getElem?_eq_getElem hq
 have h1 := flat_at hf l (j / sz) (j % sz) _ hx hm
 rw [hjm, hu] at h1
 obtain ⟨y, hy, hc⟩ := h (j / sz) _ hx
 obtain rfl := Option.some.inj hy
 have h2 := hc (j % sz) hm
 rw [hjm] at h2
 rw [h2, ← h1]
def OwnR (e : TypeId) (sz : Nat) (f : α → List Value) (w : World) (base : Nat) (v : Value) (l : List α) : Prop := w.ownsRow base e sz v l.length (l.flatMap f)
theorem OwnR.nil (e : TypeId) (sz : Nat) (f : α → List Value) (w : World) (base : Nat) : OwnR e sz f w base (.slice none 0 0) [] := World.ownsRow_nil _ _ _ _
theorem OwnR.lt (h : OwnR e sz f w base v l) {k : Nat} (hk : v.ownBlock = some k) : base ≤ k ∧ k < w.heap.size := World.ownsRow.lt (show w.ownsRow base e sz v l.length (l.flatMap f) from h) k hk
theorem OwnR.keep (h : OwnR e sz f w base v l) (hb : ∀ k, v.ownBlock = some k → w'.heap[k]? = w.heap[k]?) : OwnR e sz f w' base v l := by
 refine ⟨h.1, ?_⟩
 rcases h.2 with h1 | ⟨g, cap, cur, hv, hg, hh, rest⟩
 ·exact .inl h1
 ·refine .inr ⟨g, cap, cur, hv, hg, ?_, rest⟩
  rw [hb g (by rw [hv]; rfl)]
  exact hh
theorem OwnR.below (h : OwnR e sz f w base v l) (k : Below w.heap.size w w') : OwnR e sz f w' base v l := h.keep fun j hj => k.block j (h.lt hj).2
theorem OwnR.lower (h : OwnR e sz f w base v l) (hb : b ≤ base) : OwnR e sz f w b v l := by
 refine ⟨h.1, ?_⟩
 rcases h.2 with h1 | ⟨g, cap, cur, hv, hg, rest⟩
 ·exact .inl h1
 ·exact .inr ⟨g, cap, cur, hv, Nat.le_trans hb hg, rest⟩
theorem OwnR.slice (hf : ∀ x, (f x).length = sz) (h : OwnR e sz f w base v l) : ∃ a cap, v = .slice a l.length cap ∧ l.length ≤ cap ∧ (a = none → cap = 0) ∧ RowAt sz f w a l := by
 have hrow : w.ownsRow base e sz v l.length (l.flatMap f) := h
 rcases h.2 with ⟨rfl, h2⟩ | ⟨g, cap, cur, rfl, _, _, hc, _⟩
 ·refine ⟨none, 0, by rw [h2], by omega, fun _ => rfl, fun j u hu => ?_⟩
  have := (List.getElem?_eq_some_iff.1 hu).1
  omega
 ·refine ⟨_, cap, rfl, hc, fun q => (by cases q), fun j u hu => ⟨_, rfl, fun k hk => ?_⟩⟩
  have hj := (List.getElem?_eq_some_iff.1 hu).1
  rw [add_at, hrow.cellAt (j * sz + k) (by
   have : (j + 1) * sz ≤ l.length * sz := Nat.mul_le_mul_right _ hj
   rw [Nat.succ_mul] at this
   omega), flat_at hf l j k u hu hk]
theorem OwnR.append (hE : ElemOk e t sz f) (h : OwnR e sz f w base v l) (hb : base ≤ w.heap.size) (y : Addr) (m c : Nat) (l2 : List α) (hm : l2.length = m) (h2 : RowAt sz f w (some y) l2) (hl : l.length < 900000) (hl2 : m < 900000) :
    ∃ v' w', (Builtin.append_ #[t, t] t #[v, .slice (some y) m c]).run Tryz.prog w = .ok v' w' ∧ OwnR e sz f w' base v' (l ++ l2) ∧ Grew w v w' v' := by
 obtain ⟨i, z, by_, hi, hz, hs, hby, hzs, hbb⟩ := hE.info
 obtain ⟨v', W', h1, h2', h3⟩ := run_append_grew (P := Tryz.prog) w base t t e i z sz by_ hE.und hi hz hs hby hzs hE.pos v l.length _ h y m c (l2.flatMap f) (by rw [flat_length hE.len, hm]) (h2.flat hE.len hE.pos) (fun u hu => by
  obtain ⟨x, _, hx⟩ := List.mem_flatMap.1 hu
  exact hE.one x u hx) (by simp only [maxLen]; omega) (by
   have : (l.length + m) * by_ ≤ 1800000 * 10000 := Nat.mul_le_mul (by omega) hbb
   omega) hb
 refine ⟨v', W', h1, ?_, h3⟩
 unfold OwnR
 rw [List.flatMap_append, List.length_append, hm]
 exact h2'
theorem row_made (hf : ∀ x, (f x).length = sz) (w : World) (x : α) (cs : Array Value) (hcs : cs = (f x).toArray) (T : TypeId) : RowAt sz f (w.alloc (.cells cs T)) (some ⟨w.heap.size, 0, none⟩) [x] := fun j u hu => by
 have hj : j = 0 := by
  have := (List.getElem?_eq_some_iff.1 hu).1
  simpa using this
 subst hj
 obtain rfl : x = u := by simpa using hu
 refine ⟨_, rfl, fun i hi => ?_⟩
 rw [add_at, World.cell?_alloc_at _ _ _ _ rfl, hcs]
 simp
theorem OwnR.push (hE : ElemOk e t sz f) (h : OwnR e sz f w base v l) (hb : base ≤ w.heap.size) (x : α) (cs : Array Value) (hcs : cs = (f x).toArray) (T : TypeId) (hl : l.length < 900000) :
    ∃ v' w', (Builtin.append_ #[t, t] t #[v, .slice (some ⟨w.heap.size, 0, none⟩) 1 1]).run Tryz.prog (w.alloc (.cells cs T)) = .ok v' w' ∧ OwnR e sz f w' base v' (l ++ [x]) ∧ Grew w v w' v' := by
 obtain ⟨v', w', h1, h2, h3⟩ := (h.below (alloc_below w (.cells cs T))).append hE (by simp; omega) ⟨w.heap.size, 0, none⟩ 1 1 [x] rfl (row_made hE.len w x cs hcs T) hl (by omega)
 exact ⟨v', w', h1, h2, (Grew.alloc w v _).trans h3⟩
theorem OwnR.grew_below (h : OwnR e sz f w base v l) (hb : base ≤ w.heap.size) (k : Grew w v w' v') : Below base w w' := k.below hb fun j hj => (h.lt hj).1
end
section
variable {ops : Array Oper} {o : Oper} {a : Act} {w : World} {Q : Exit → Act → World → Prop}
theorem step_append {t : TypeId} {K : Act → World → Prop} {E : Prop} (hg : o.guard = none) (s x : Operand) (hop : o.op = Op.call { callee := Callee.builtin Builtin.append, args := #[s, x], argTypes := #[t, t] }) (hty : o.type = t) {u v r : Value} {w' : World} (hs : a.eval s = u) (hx : a.eval x = v)
    (hrun : (Builtin.append_ #[t, t] t #[u, v]).run Tryz.prog w = .ok r w') (hK : K (a.put o.dst r) w') :
    if Region.wanted o (yielded ops a.tmps) = true then Oper.wp Tryz.prog o a w K Q else E := by
 have hw : Region.wanted o (yielded ops a.tmps) = true := by simp [Region.wanted, hg]
 rw [if_pos hw]
 unfold Oper.wp
 simp [execOp, hop, hty, resolve, invoke, builtin, hs, hx, hrun, Result.andThen]
 exact hK
theorem wpList_append {t : TypeId} {rest : List Oper} (hg : o.guard = none) (x y : Operand) (ho : o.op = .call { callee := .builtin .append, args := #[x, y], argTypes := #[t, t] }) (hty : o.type = t) {u v r : Value} {w' : World} (hx : a.eval x = u) (hy : a.eval y = v)
    (hc : (Builtin.append_ #[t, t] t #[u, v]).run Tryz.prog w = .ok r w')
    (h : wpList Tryz.prog ops Q rest (a.put o.dst r) w') : wpList Tryz.prog ops Q (o :: rest) a w := by
 refine wpList_value hg ?_ h
 unfold execOp
 simp only [ho, hty, resolve, invoke, builtin, Sem.run_bind, Sem.run_pure, Result.andThen_ok]
 simp [hx, hy, hc, Result.andThen]
end
end Go.Proofs.YtidihdiffiffmaaGreatDoor
namespace Go.Proofs.YtidihdiffiffmaaGreatDoor
open Go.RowKit
set_option maxRecDepth 8000
set_option linter.unusedSimpArgs false
set_option linter.unusedVariables false
def Blk (W : World) (b : Nat) (vs : List Value) : Prop := ∀ k v, vs[k]? = some v → W.cell? ⟨b, k, none⟩ = some v ∧ W.frozen? ⟨b, k, none⟩ = false
theorem Blk.same {W W' : World} {b : Nat} {vs : List Value} (h : Blk W b vs) (hb : W'.heap[b]? = W.heap[b]?) : Blk W' b vs := fun k v hv =>
 ⟨(World.cell?_of_block (a := ⟨b, k, none⟩) hb).trans (h k v hv).1, (World.frozen?_of_block (a := ⟨b, k, none⟩) hb).trans (h k v hv).2⟩
theorem blk_alloc (w : World) (cs : Array Value) (T : TypeId) : Blk (w.alloc (.cells cs T)) w.heap.size cs.toList := fun k v hv =>
 ⟨by rw [World.cell?_alloc_at _ _ _ _ rfl]; simpa using hv, World.frozen?_alloc_new w cs T k⟩
theorem Blk.lt {W : World} {b : Nat} {vs : List Value} (h : Blk W b vs) {v : Value} (h0 : vs[0]? = some v) : b < W.heap.size := World.block_lt_of_cell? _ ⟨b, 0, none⟩ (h 0 v h0).1
theorem Blk.set {W : World} {b : Nat} {vs : List Value} (h : Blk W b vs) (k : Nat) (v : Value) (hk : k < vs.length) : Blk (W.setCell ⟨b, k, none⟩ v) b (vs.set k v) := fun j u hu => by
 by_cases hj : k = j
 ·subst hj
  rw [List.getElem?_set_self hk] at hu
  obtain rfl := Option.some.inj hu
  obtain ⟨h1, h2⟩ := h k vs[k] (List.getElem?_eq_getElem hk)
  exact ⟨by simp [World.cell?_setCell_same', h1], by simp [World.frozen?_setCell, h2]⟩
 ·rw [List.getElem?_set_ne hj] at hu
  obtain ⟨h1, h2⟩ := h j u hu
  exact ⟨by rw [World.cell?_setCell_other]; exact h1; simp [hj], by simp [World.frozen?_setCell, h2]⟩
end Go.Proofs.YtidihdiffiffmaaGreatDoor
namespace Go.Proofs.YtidihdiffiffmaaGreatDoor
open Go.RowKit
set_option maxRecDepth 8000
set_option linter.unusedSimpArgs false
set_option linter.unusedVariables false
theorem Blk.range {W : World} {b : Nat} {vs : List Value} (h : Blk W b vs) : W.rangeAt b 0 vs := fun j v hv => by
 rw [Nat.zero_add]
 exact (h j v hv).1
theorem Blk.there {W : World} {b : Nat} {vs : List Value} (h : Blk W b vs) : W.there b 0 vs.length := fun j hj => by
 rw [Nat.zero_add]
 have := h j vs[j] (List.getElem?_eq_getElem hj)
 exact ⟨by rw [this.1]; rfl, this.2⟩
theorem blk_of {W : World} {b : Nat} {vs : List Value} (h1 : W.rangeAt b 0 vs) (h2 : W.there b 0 vs.length) : Blk W b vs := fun k v hv => by
 have hk := (List.getElem?_eq_some_iff.1 hv).1
 have e1 := h1 k v hv
 have e2 := (h2 k hk).2
 rw [Nat.zero_add] at e1 e2
 exact ⟨e1, e2⟩
theorem Blk.setAll {W : World} {b : Nat} {vs cs : List Value} (h : Blk W b vs) (hl : vs.length = cs.length) : Blk (W.setCells b 0 cs) b cs := by
 have ht : W.there b 0 cs.length := by rw [← hl]; exact h.there
 exact blk_of (World.rangeAt_setCells_same W b 0 cs ht) (World.there_setCells ht b 0 cs)
theorem Below.cells {B : Nat} {a : World} {b : Nat} (hp : B ≤ b) : ∀ (vs : List Value) (o : Nat) {w : World} (_ : Below B a w), Below B a (w.setCells b o vs)
 | [], _, _, h => h
 | v :: r, o, _, h => Below.cells hp r (o + 1) (h.setCell (p := ⟨b, o, none⟩) hp v)
theorem heap_setCells_other {b k : Nat} (hk : k ≠ b) : ∀ (vs : List Value) (o : Nat) (w : World), (w.setCells b o vs).heap[k]? = w.heap[k]?
 | [], _, _ => rfl
 | v :: r, o, w => (heap_setCells_other hk r (o + 1) _).trans (heap_setCell_other _ ⟨b, o, none⟩ k _ hk)
theorem OwnR.setAll {α : Type} {e : TypeId} {sz : Nat} {f : α → List Value} {w : World} {base g : Nat} {v : Value} {l : List α} (h : OwnR e sz f w base v l) (hg : v.ownBlock ≠ some g) (vs : List Value) : OwnR e sz f (w.setCells g 0 vs) base v l :=
 h.keep fun k hk => heap_setCells_other (fun q => hg (by rw [hk, q])) vs 0 w
section
variable {ops : Array Oper} {rest : List Oper} {o : Oper} {a : Act} {w W : World} {Q : Exit → Act → World → Prop} {T : TypeId} {d : TypeDesc}
theorem wpList_load_row (hg : o.guard = none) (x : Operand) (ho : o.op = .load T x) (b : Nat) (hx : a.eval x = .pointer (some ⟨b, 0, none⟩)) (cs : List Value) (hc : w.rangeAt b 0 cs)
    (hu : Tryz.prog.underlying T = some d) (hd : d.isRow = true) (hi : (Tryz.prog.info? T).map (·.size) = some cs.length)
    (h : wpList Tryz.prog ops Q rest (a.put o.dst (.agg cs.toArray)) w) : wpList Tryz.prog ops Q (o :: rest) a w := wpList_load_mid hg T x ho b 0 hx cs d hc hu hd hi h
theorem wpList_store_row (hg : o.guard = none) (x y : Operand) (ho : o.op = .store T x y) (b : Nat) (hx : a.eval x = .pointer (some ⟨b, 0, none⟩)) (cs : List Value) (hy : a.eval y = .agg cs.toArray)
    (ht : w.there b 0 cs.length) (hi : (Tryz.prog.info? T).map (·.size) = some cs.length) (h1 : ∀ v ∈ cs, v.oneCell' = true) (hW : w.setCells b 0 cs = W)
    (h : wpList Tryz.prog ops Q rest (a.put o.dst undef) W) : wpList Tryz.prog ops Q (o :: rest) a w :=
 wpList_store_mid hg T x y ho b 0 cs.toArray hx hy ht hi (all_oneCell_toArray h1) (hW ▸ h)
end
section
variable {ops : Array Oper} {rest : List Oper} {o : Oper} {a : Act} {w : World} {Q : Exit → Act → World → Prop} {T : TypeId} {d : TypeDesc} {S : World → Prop}
theorem yields_row (hw : Region.wanted o (yielded ops a.tmps) = true) (x : Operand) (ho : o.op = .load T x) (b : Nat) (hx : a.eval x = .pointer (some ⟨b, 0, none⟩)) (cs : List Value) (hS : ∀ w, S w → w.rangeAt b 0 cs)
    (hu : Tryz.prog.underlying T = some d) (hd : d.isRow = true) (hi : (Tryz.prog.info? T).map (·.size) = some cs.length) : YieldsIf Tryz.prog ops S o (.agg cs.toArray) a := yieldsIf_load_mid hw T x ho b 0 hx cs d hS hu hd hi
theorem yields_conv {t u : TypeId} {v r : Value} (hw : Region.wanted o (yielded ops a.tmps) = true) (x : Operand) (ho : o.op = .convert t u x) (hx : a.eval x = v) (hS : ∀ w, S w → (convert t u v).run Tryz.prog w = .ok r w) : YieldsIf Tryz.prog ops S o r a :=
 .inl ⟨hw, fun w hw' => by
  unfold execOp
  simp only [ho, hx, Sem.run_bind, hS w hw', Result.andThen_ok]
  rfl⟩
end
theorem results_row2 {fn : Func} {p q : Tmp} {T : TypeId} {d : TypeDesc} (h : fn.results = #[.cell p T, .tmp q]) (tmps : Array Value) (w : World) (g : Nat) (hp : tmps.getD p undef = .pointer (some ⟨g, 0, none⟩)) (v : Value) (hv : tmps.getD q undef = v) (cs : List Value) (hr : w.rangeAt g 0 cs)
    (hu : Tryz.prog.underlying T = some d) (hd : d.isRow = true) (hi : (Tryz.prog.info? T).map (·.size) = some cs.length) :
    (results fn tmps).run Tryz.prog w = .ok (.tuple #[.agg cs.toArray, v]) w := by
 have hp' : tmps[p]?.getD undef = .pointer (some ⟨g, 0, none⟩) := by simpa using hp
 have hv' : tmps[q]?.getD undef = v := by simpa using hv
 have e := run_loadVar_mid (P := Tryz.prog) w g 0 T cs d hr hu hd hi
 simp [results, h, hp', hv', asAddr, e]
theorem results_row1 {fn : Func} {p : Tmp} {T : TypeId} {d : TypeDesc} (h : fn.results = #[.cell p T]) (tmps : Array Value) (w : World) (g : Nat) (hp : tmps.getD p undef = .pointer (some ⟨g, 0, none⟩)) (cs : List Value) (hr : w.rangeAt g 0 cs)
    (hu : Tryz.prog.underlying T = some d) (hd : d.isRow = true) (hi : (Tryz.prog.info? T).map (·.size) = some cs.length) :
    (results fn tmps).run Tryz.prog w = .ok (.agg cs.toArray) w := by
 have hp' : tmps[p]?.getD undef = .pointer (some ⟨g, 0, none⟩) := by simpa using hp
 have e := run_loadVar_mid (P := Tryz.prog) w g 0 T cs d hr hu hd hi
 simp [results, h, hp', asAddr, e]
 try rfl
end Go.Proofs.YtidihdiffiffmaaGreatDoor
namespace Go.Proofs.YtidihdiffiffmaaGreatDoor
open Go.RowKit
set_option maxRecDepth 8000
set_option linter.unusedSimpArgs false
set_option linter.unusedVariables false
def Stab (k : World → Prop) : Prop := ∀ W W', k W → Below W.heap.size W W' → k W'
structure Held (w W : World) (ks : List (World → Prop)) : Prop where
 k : ∀ k ∈ ks, k W ∧ Stab k
 bl : Below w.heap.size w W
section
variable {w W W' : World} {ks : List (World → Prop)} {k : World → Prop}
theorem Held.then (h : Held w W ks) (b : Below W.heap.size W W') : Held w W' ks := ⟨fun k hk => ⟨(h.k k hk).2 _ _ (h.k k hk).1 b, (h.k k hk).2⟩, Below.then h.bl b⟩
theorem Held.drew (h : Held w W ks) : Held w W.drew ks := h.then (Below.refl _ _).drew
theorem Held.add (h : Held w W ks) (hk : k W) (hs : Stab k) : Held w W (k :: ks) := ⟨fun j hj => by
 rcases List.mem_cons.1 hj with rfl | hj
 ·exact ⟨hk, hs⟩
 ·exact h.k j hj, h.bl⟩
end
def BlkL (g : Nat) (cs : List Value) (W : World) : Prop := Blk W g cs ∧ g < W.heap.size
theorem stab_blk (g : Nat) (cs : List Value) : Stab (BlkL g cs) := fun W W' h b => ⟨h.1.same (b.block _ h.2), Nat.lt_of_lt_of_le h.2 b.size⟩
theorem BlkL.range {g : Nat} {cs : List Value} {W : World} (h : BlkL g cs W) : W.rangeAt g 0 cs := h.1.range
theorem blkl_alloc (w : World) (cs : Array Value) (T : TypeId) : BlkL w.heap.size cs.toList (w.alloc (.cells cs T)) := ⟨blk_alloc w cs T, by simp⟩
theorem put_new (W : World) (zs : Array Value) (T : TypeId) (cs : List Value) (hl : cs.length = zs.size) (hp : 0 < cs.length) : ∃ W', (W.alloc (.cells zs T)).setCells W.heap.size 0 cs = W' ∧ (W.alloc (.cells zs T)).there W.heap.size 0 cs.length ∧ BlkL W.heap.size cs W' ∧ Below W.heap.size W W' := by
 have hb := blk_alloc W zs T
 have hl' : zs.toList.length = cs.length := by simp [hl]
 have hs := hb.setAll hl'
 refine ⟨_, rfl, ?_, ⟨hs, ?_⟩, Below.cells (Nat.le_refl _) cs 0 (alloc_below _ _)⟩
 ·rw [← hl']
  exact hb.there
 ·obtain ⟨v, hv⟩ : ∃ v, cs[0]? = some v := ⟨_, List.getElem?_eq_getElem hp⟩
  exact hs.lt hv
end Go.Proofs.YtidihdiffiffmaaGreatDoor
namespace Go.Proofs.YtidihdiffiffmaaGreatDoor
open Go.RowKit
set_option maxRecDepth 8000
set_option linter.unusedSimpArgs false
set_option linter.unusedVariables false
set_option maxRecDepth 8000 in
set_option maxHeartbeats 4000000 in
theorem riEnc_any (i : Ins) (w : World) : Calls Tryz.prog 41 #[i.v] w fun e w' => e = .returned (.tuple #[.int .i64 (insW i), .int .i64 (insE i)]) ∧ Below w.heap.size w w' := by
 have hb0 := blkl_alloc w (ins3 i).toArray 80
 have hB0 := alloc_below w (.cells (ins3 i).toArray 80)
 replace hb0 : BlkL w.heap.size (ins3 i) (w.alloc (.cells (ins3 i).toArray 80)) := hb0
 have z0 := (hb0.1 0 _ rfl).1
 have z1 := (hb0.1 1 _ rfl).1
 have z2 := (hb0.1 2 _ rfl).1
 clear hb0
 by_cases h0 : 0 ≤ i.o
 rotate_left
 ·have hE : insE i = 3 := by
    unfold insE
    rw [if_pos (by omega)]
  have hW : insW i = 0 := by
   unfold insW
   rw [if_neg (by rw [hE]; decide)]
  have b0 : i.o < 0 := by omega
  clear h0
  replace hE : Aside (insE i = 3) := hE
  replace hW : Aside (insW i = 0) := hW
  go_enter Tryz.func41, Tryz.ntmps41
  go_upto_region 1 with fail
  generalize w.alloc (.cells #[.int .i64 i.o, .int .i64 i.p, .int .i64 i.n] 80) = W0 at *
  go_wp2_with fail
  refine bodyPost_ret (v := .tuple #[.int .i64 0, .int .i64 3]) (by simp [results, Tryz.results41, go_sem]) rfl ?_
  exact ⟨by rw [hW.out, hE.out], hB0⟩
 have g0 : ¬ i.o < 0 := by omega
 by_cases h1 : i.o ≤ 22
 rotate_left
 ·have hE : insE i = 3 := by
    unfold insE
    rw [if_pos (by omega)]
  have hW : insW i = 0 := by
   unfold insW
   rw [if_neg (by rw [hE]; decide)]
  have b1 : 22 < i.o := by omega
  clear h1
  replace hE : Aside (insE i = 3) := hE
  replace hW : Aside (insW i = 0) := hW
  go_enter Tryz.func41, Tryz.ntmps41
  go_upto_region 1 with fail
  generalize w.alloc (.cells #[.int .i64 i.o, .int .i64 i.p, .int .i64 i.n] 80) = W0 at *
  go_wp2_with fail
  refine bodyPost_ret (v := .tuple #[.int .i64 0, .int .i64 3]) (by simp [results, Tryz.results41, go_sem]) rfl ?_
  exact ⟨by rw [hW.out, hE.out], hB0⟩
 have g1 : ¬ 22 < i.o := by omega
 by_cases h2 : 0 ≤ i.p
 rotate_left
 ·have hE : insE i = 1 := by
    unfold insE
    rw [if_neg (by omega), if_pos (by omega)]
  have hW : insW i = 0 := by
   unfold insW
   rw [if_neg (by rw [hE]; decide)]
  have b2 : i.p < 0 := by omega
  clear h2
  replace hE : Aside (insE i = 1) := hE
  replace hW : Aside (insW i = 0) := hW
  go_enter Tryz.func41, Tryz.ntmps41
  go_upto_region 1 with fail
  generalize w.alloc (.cells #[.int .i64 i.o, .int .i64 i.p, .int .i64 i.n] 80) = W0 at *
  go_wp2_with fail
  refine bodyPost_ret (v := .tuple #[.int .i64 0, .int .i64 1]) (by simp [results, Tryz.results41, go_sem]) rfl ?_
  exact ⟨by rw [hW.out, hE.out], hB0⟩
 have g2 : ¬ i.p < 0 := by omega
 by_cases h3 : i.p ≤ 3
 rotate_left
 ·have hE : insE i = 1 := by
    unfold insE
    rw [if_neg (by omega), if_pos (by omega)]
  have hW : insW i = 0 := by
   unfold insW
   rw [if_neg (by rw [hE]; decide)]
  have b3 : 3 < i.p := by omega
  clear h3
  replace hE : Aside (insE i = 1) := hE
  replace hW : Aside (insW i = 0) := hW
  go_enter Tryz.func41, Tryz.ntmps41
  go_upto_region 1 with fail
  generalize w.alloc (.cells #[.int .i64 i.o, .int .i64 i.p, .int .i64 i.n] 80) = W0 at *
  go_wp2_with fail
  refine bodyPost_ret (v := .tuple #[.int .i64 0, .int .i64 1]) (by simp [results, Tryz.results41, go_sem]) rfl ?_
  exact ⟨by rw [hW.out, hE.out], hB0⟩
 have g3 : ¬ 3 < i.p := by omega
 by_cases h4 : -2147483648 ≤ i.n
 rotate_left
 ·have hE : insE i = 1 := by
    unfold insE
    rw [if_neg (by omega), if_pos (by omega)]
  have hW : insW i = 0 := by
   unfold insW
   rw [if_neg (by rw [hE]; decide)]
  have b4 : i.n < -2147483648 := by omega
  clear h4
  replace hE : Aside (insE i = 1) := hE
  replace hW : Aside (insW i = 0) := hW
  go_enter Tryz.func41, Tryz.ntmps41
  go_upto_region 1 with fail
  generalize w.alloc (.cells #[.int .i64 i.o, .int .i64 i.p, .int .i64 i.n] 80) = W0 at *
  go_wp2_with fail
  refine bodyPost_ret (v := .tuple #[.int .i64 0, .int .i64 1]) (by simp [results, Tryz.results41, go_sem]) rfl ?_
  exact ⟨by rw [hW.out, hE.out], hB0⟩
 have g4 : ¬ i.n < -2147483648 := by omega
 by_cases h5 : i.n ≤ 2147483647
 rotate_left
 ·have hE : insE i = 1 := by
    unfold insE
    rw [if_neg (by omega), if_pos (by omega)]
  have hW : insW i = 0 := by
   unfold insW
   rw [if_neg (by rw [hE]; decide)]
  have b5 : 2147483647 < i.n := by omega
  clear h5
  replace hE : Aside (insE i = 1) := hE
  replace hW : Aside (insW i = 0) := hW
  go_enter Tryz.func41, Tryz.ntmps41
  go_upto_region 1 with fail
  generalize w.alloc (.cells #[.int .i64 i.o, .int .i64 i.p, .int .i64 i.n] 80) = W0 at *
  go_wp2_with fail
  refine bodyPost_ret (v := .tuple #[.int .i64 0, .int .i64 1]) (by simp [results, Tryz.results41, go_sem]) rfl ?_
  exact ⟨by rw [hW.out, hE.out], hB0⟩
 have g5 : ¬ 2147483647 < i.n := by omega
 have hE : insE i = 0 := insE_zero.2 ⟨⟨h0, h1⟩, h2, h3, h4, h5⟩
 have hW : insW i = bits .or .i64 (bits .or .i64 (i.o * 72057594037927936) (i.p * 281474976710656)) (i.n % 4294967296) := by rw [insW_eq hE, or_ins h0 h1 h2 h3]
 replace hE : Aside (insE i = 0) := hE
 replace hW : Aside (insW i = bits .or .i64 (bits .or .i64 (i.o * 72057594037927936) (i.p * 281474976710656)) (i.n % 4294967296)) := hW
 go_enter Tryz.func41, Tryz.ntmps41
 go_upto_region 1 with fail
 generalize w.alloc (.cells #[.int .i64 i.o, .int .i64 i.p, .int .i64 i.n] 80) = W0 at *
 go_wp2_with fail
 refine bodyPost_ret (v := .tuple #[.int .i64 (bits .or .i64 (bits .or .i64 (i.o * 72057594037927936) (i.p * 281474976710656)) (i.n % 4294967296)), .int .i64 0]) (by simp [results, Tryz.results41, go_sem]) rfl ?_
 exact ⟨by rw [hW.out, hE.out], hB0⟩
end Go.Proofs.YtidihdiffiffmaaGreatDoor
namespace Go.Proofs.YtidihdiffiffmaaGreatDoor
open Go.RowKit
set_option maxRecDepth 8000
set_option linter.unusedSimpArgs false
set_option linter.unusedVariables false
section
variable {ops : Array Oper} {o : Oper} {a : Act} {S : World → Prop}
theorem yields_cellI {T : TypeId} (hw : Region.wanted o (yielded ops a.tmps) = true) (x : Operand) (ho : o.op = .load T x) (y : Addr) (hx : a.eval x = .pointer (some y)) (v : Value) (hS : ∀ w, S w → w.cell? y = some v) (hl : ∀ w y v, w.cell? y = some v → (Instr.loadAt T (.pointer (some y))).run Tryz.prog w = .ok v w) : YieldsIf Tryz.prog ops S o v a :=
 .inl ⟨hw, fun w hw' => by
  unfold execOp
  simp only [ho, hx, Sem.run_bind, hl w y v (hS w hw'), Result.andThen_ok]
  rfl⟩
end
theorem intI_load (w : World) (y : Addr) (v : Value) (h : w.cell? y = some v) : (Instr.loadAt 3 (.pointer (some y))).run Tryz.prog w = .ok v w := by
 have h1 := Tryz.underlying3
 go_simp
def ParR (s : ByteArray) (j : Ins) (f : Int) : Prop := (f = 0 ∧ IsT s j) ∨ (f = 6 ∧ j = ⟨0, 0, 0⟩ ∧ ∀ i, ¬ IsT s i)
theorem ParR.same {s : ByteArray} {j k : Ins} {f g : Int} (h : ParR s j f) (h2 : ParR s k g) : j = k ∧ f = g := by
 rcases h with ⟨rfl, h⟩ | ⟨rfl, rfl, h⟩
 ·rcases h2 with ⟨rfl, h2⟩ | ⟨rfl, rfl, h2⟩
  ·exact ⟨h.uniq h2, rfl⟩
  ·exact absurd h (h2 j)
 ·rcases h2 with ⟨rfl, h2⟩ | ⟨rfl, rfl, h2⟩
  ·exact absurd h2 (h k)
  ·exact ⟨rfl, rfl⟩
theorem ParR.of {s : ByteArray} {i j : Ins} {f : Int} (h : ParR s j f) (hi : IsT s i) : j = i ∧ f = 0 := h.same (.inl ⟨rfl, hi⟩)
theorem ins3_one (i : Ins) : ∀ v ∈ ins3 i, v.oneCell' = true := fun v hv => by simp [ins3] at hv; rcases hv with rfl | rfl | rfl <;> rfl
theorem put_box {W : World} {g : Nat} {i : Ins} (h : BlkL g (ins3 i) W) (j : Ins) : ∃ W', W.setCells g 0 (ins3 j) = W' ∧ W.there g 0 (ins3 j).length ∧ BlkL g (ins3 j) W' ∧ ∀ B W0, B ≤ g → Below B W0 W → Below B W0 W' := by
 have h1 : Blk (W.setCells g 0 (ins3 j)) g (ins3 j) := h.1.setAll rfl
 exact ⟨_, rfl, h.1.there, ⟨h1, h1.lt rfl⟩, fun B W0 hB h => Below.cells hB _ 0 h⟩
def fit64 (x : Int) : Prop := -9223372036854775808 ≤ x ∧ x ≤ 9223372036854775807
theorem insW_fit (i : Ins) : fit64 (insW i) := by
 have := insW_range (i := i)
 unfold fit64
 omega
set_option maxHeartbeats 400000 in
theorem w15_any (k m : Int) (h0 : 0 < m) (h1 : m < 1000000000000) (w : World) :
    Calls Tryz.prog 113 #[.int .i64 k, .int .i64 m] w fun e w' => e = .returned (.int .i64 (k % m)) ∧ w' = w := by
 have b1 := Int.lt_tmod_of_pos k h0
 have b2 := Int.tmod_lt_of_pos k h0
 have hm0 : ¬ m = 0 := by omega
 have hm1 : ¬ m = -1 := by omega
 by_cases hn : k.tmod m < 0
 ·have e1 : k % m = k.tmod m + m := by
    rw [Int.tmod_eq_emod] at hn ⊢
    split at hn
    ·have := Int.emod_nonneg k (by omega : m ≠ 0); omega
    ·rename_i hc; rw [if_neg hc]; rw [Int.natAbs_of_nonneg (by omega)]; omega
  rw [e1]
  clear e1
  go_enter Tryz.func113, Tryz.ntmps113
  go_wp2
  go_ret
  exact ⟨rfl, rfl⟩
 ·have e1 : k % m = k.tmod m := by
    rw [Int.tmod_eq_emod] at hn ⊢
    split
    ·simp
    ·rename_i hc
     rw [if_neg hc] at hn
     have := Int.emod_lt_of_pos k h0
     rw [Int.natAbs_of_nonneg (by omega)] at *
     omega
  rw [e1]
  clear e1
  go_enter Tryz.func113, Tryz.ntmps113
  go_wp2
  go_ret
  exact ⟨rfl, rfl⟩
set_option maxHeartbeats 2000000 in
theorem igood_any (i : Ins) (w : World) : Calls Tryz.prog 80 #[i.v] w fun e w' => e = .returned (goodI i).v ∧ Below w.heap.size w w' := by
 have hw : IntKind.i64.wrap (i.n % 4294967296 - 2147483648) = i.n % 4294967296 - 2147483648 := by rw [IntKind.wrap_i64]; omega
 go_enter Tryz.func80, Tryz.ntmps80
 go_wp2_with fail
 go_region_held (fun W => W.cell? ⟨w.heap.size, 0, none⟩ = some (.int .i64 i.o) ∧ W.cell? ⟨w.heap.size, 1, none⟩ = some (.int .i64 i.p) ∧ W.cell? ⟨w.heap.size, 2, none⟩ = some (.int .i64 i.n)) (go_keep)
  (first | (go_at_call 113; refine (w15_any _ _ (by decide) (by decide) _).mono ?_; rintro e w' ⟨rfl, rfl⟩) | fail)
 go_wp2
 exact bodyPost_ret (v := (goodI i).v) (by simp [results, Tryz.results80, go_sem, goodI, hw]) rfl ⟨rfl, (below2 _ _ _).drew⟩
end Go.Proofs.YtidihdiffiffmaaGreatDoor
namespace Go.Proofs.YtidihdiffiffmaaGreatDoor
open Go.RowKit
set_option maxRecDepth 8000
set_option linter.unusedSimpArgs false
set_option linter.unusedVariables false
structure Rg where
 a : Int
 b : Int
 c : Int
 g : Int
abbrev Rg.v (x : Rg) : Value := .agg #[.int .i64 x.a, .int .i64 x.b, .int .i64 x.c, .int .i64 x.g]
def mayR (x : Rg) (r : Int) : Bool := decide (0 ≤ r ∧ r ≤ 7 ∧ r ≤ x.b)
def mayW (x : Rg) (r : Int) : Bool := decide (0 ≤ r ∧ r ≤ 7 ∧ r ≤ x.a)
def mayX (x : Rg) (r : Int) : Bool := decide (0 ≤ r ∧ r ≤ 7 ∧ x.a ≤ r ∧ r ≤ x.b)
def isR (r : Int) : Bool := decide (0 ≤ r ∧ r ≤ 7)
def OkR (x : Rg) : Prop := 0 ≤ x.a ∧ x.a ≤ x.b ∧ x.b ≤ x.c ∧ x.c ≤ 7 ∧ 0 ≤ x.g ∧ x.g ≤ 16
def chkR (x : Rg) : Int := if 0 ≤ x.a ∧ x.a ≤ x.b ∧ x.b ≤ x.c ∧ x.c ≤ 7 ∧ 0 ≤ x.g ∧ x.g ≤ 16 then 0 else 1
def goodR (x : Rg) : Rg := ⟨x.a % 8, x.a % 8 + x.b % (8 - x.a % 8), x.a % 8 + x.b % (8 - x.a % 8) + x.c % (8 - (x.a % 8 + x.b % (8 - x.a % 8))), x.g % 17⟩
theorem goodR_ok (x : Rg) : OkR (goodR x) := by
 have h1 := Int.emod_nonneg x.a (by decide : (8 : Int) ≠ 0)
 have h2 := Int.emod_lt_of_pos x.a (by decide : (0 : Int) < 8)
 have h3 := Int.emod_nonneg x.b (by omega : (8 - x.a % 8 : Int) ≠ 0)
 have h4 := Int.emod_lt_of_pos x.b (by omega : (0 : Int) < 8 - x.a % 8)
 have h5 := Int.emod_nonneg x.c (by omega : (8 - (x.a % 8 + x.b % (8 - x.a % 8)) : Int) ≠ 0)
 have h6 := Int.emod_lt_of_pos x.c (by omega : (0 : Int) < 8 - (x.a % 8 + x.b % (8 - x.a % 8)))
 refine ⟨?_, ?_, ?_, ?_, ?_, ?_⟩ <;> simp only [goodR] <;> omega
abbrev RBox (W : World) (g : Nat) (l : Rg) : Prop := W.cell? ⟨g, 0, none⟩ = some (.int .i64 l.a) ∧ W.cell? ⟨g, 1, none⟩ = some (.int .i64 l.b) ∧ W.cell? ⟨g, 2, none⟩ = some (.int .i64 l.c) ∧ W.cell? ⟨g, 3, none⟩ = some (.int .i64 l.g)
set_option maxHeartbeats 400000 in
theorem rgw_any (k m : Int) (h0 : 0 < m) (h1 : m < 1000000) (w : World) :
    Calls Tryz.prog 81 #[.int .i64 k, .int .i64 m] w fun e w' => e = .returned (.int .i64 (k % m)) ∧ w' = w := by
 have b1 := Int.lt_tmod_of_pos k h0
 have b2 := Int.tmod_lt_of_pos k h0
 have hm0 : ¬ m = 0 := by omega
 have hm1 : ¬ m = -1 := by omega
 by_cases hn : k.tmod m < 0
 ·have e1 : k % m = k.tmod m + m := by
    rw [Int.tmod_eq_emod] at hn ⊢
    split at hn
    ·have := Int.emod_nonneg k (by omega : m ≠ 0); omega
    ·rename_i hc; rw [if_neg hc]; rw [Int.natAbs_of_nonneg (by omega)]; omega
  rw [e1]
  clear e1
  go_enter Tryz.func81, Tryz.ntmps81
  go_wp2
  go_ret
  exact ⟨rfl, rfl⟩
 ·have e1 : k % m = k.tmod m := by
    rw [Int.tmod_eq_emod] at hn ⊢
    split
    ·simp
    ·rename_i hc
     rw [if_neg hc] at hn
     have := Int.emod_lt_of_pos k h0
     rw [Int.natAbs_of_nonneg (by omega)] at *
     omega
  rw [e1]
  clear e1
  go_enter Tryz.func81, Tryz.ntmps81
  go_wp2
  go_ret
  exact ⟨rfl, rfl⟩
set_option maxHeartbeats 1000000 in
theorem rggood_any (x : Rg) (w : World) :
    Calls Tryz.prog 43 #[x.v] w fun e w' => e = .returned (goodR x).v ∧ Below w.heap.size w w' := by
 have h1 := Int.emod_nonneg x.a (by decide : (8 : Int) ≠ 0)
 have h2 := Int.emod_lt_of_pos x.a (by decide : (0 : Int) < 8)
 obtain ⟨A, hA⟩ : ∃ A, x.a % 8 = A := ⟨_, rfl⟩
 rw [hA] at h1 h2
 have h3 := Int.emod_nonneg x.b (by omega : (8 - A : Int) ≠ 0)
 have h4 := Int.emod_lt_of_pos x.b (by omega : (0 : Int) < 8 - A)
 obtain ⟨B, hB⟩ : ∃ B, x.b % (8 - A) = B := ⟨_, rfl⟩
 rw [hB] at h3 h4
 have h5 := Int.emod_nonneg x.c (by omega : (8 - (A + B) : Int) ≠ 0)
 have h6 := Int.emod_lt_of_pos x.c (by omega : (0 : Int) < 8 - (A + B))
 obtain ⟨C, hC⟩ : ∃ C, x.c % (8 - (A + B)) = C := ⟨_, rfl⟩
 rw [hC] at h5 h6
 obtain ⟨G, hG⟩ : ∃ G, x.g % 17 = G := ⟨_, rfl⟩
 have e1 : goodR x = ⟨A, A + B, A + B + C, G⟩ := by simp only [goodR, hA, hB, hC, hG]
 rw [e1]
 have c1 := fun W => rgw_any x.a 8 (by decide) (by decide) W
 have c2 := fun W => rgw_any x.b (8 - A) (by omega) (by omega) W
 have c3 := fun W => rgw_any x.c (8 - (A + B)) (by omega) (by omega) W
 have c4 := fun W => rgw_any x.g 17 (by decide) (by decide) W
 rw [hA] at c1
 rw [hB] at c2
 rw [hC] at c3
 rw [hG] at c4
 clear e1 hA hB hC hG
 go_enter Tryz.func43, Tryz.ntmps43
 go_wp2_with fail
 refine (c1 _).mono ?_
 rintro e w' ⟨rfl, rfl⟩
 go_wp2_with fail
 have hS0 : RBox ((w.alloc (.cells #[.int .i64 A, .int .i64 x.b, .int .i64 x.c, .int .i64 x.g] 33)).alloc (.cells #[.int .i64 0, .int .i64 0, .int .i64 0, .int .i64 0] 33)) w.heap.size ⟨A, x.b, x.c, x.g⟩ := by refine ⟨?_, ?_, ?_, ?_⟩ <;> simp [World.cell?_alloc_at]
 have q0 := hS0.1
 have hw1 : IntKind.i64.wrap (8 - A) = 8 - A := Go.IntWalk.i64_in _ (by omega)
 have hw2 : IntKind.i64.wrap (A + B) = A + B := Go.IntWalk.i64_in _ (by omega)
 refine wp_region_held_drew (S := (fun W => W.cell? ⟨w.heap.size, 0, none⟩ = some (.int .i64 A))) (by kernel_rfl) (by first | exact q0 | go_keep) ?_
 intro hHeld
 (first | (refine tkA 0 ?_) | (refine tkB (v := undef) 0 (y := Or.inr ⟨by rfl, rfl⟩) (h := ?_)) | fail); (try simp only [Act.put, zsA, zsB, zsC, hw1, hw2])
 (first | (refine tkA 1 ?_) | (refine tkB (v := undef) 1 (y := Or.inr ⟨by rfl, rfl⟩) (h := ?_)) | fail); (try simp only [Act.put, zsA, zsB, zsC, hw1, hw2])
 (first | (refine tkA 2 ?_) | (refine tkB (v := undef) 2 (y := Or.inr ⟨by rfl, rfl⟩) (h := ?_)) | fail); (try simp only [Act.put, zsA, zsB, zsC, hw1, hw2])
 (first | (refine tkA 4 ?_) | (refine tkB (v := undef) 4 (y := Or.inr ⟨by rfl, rfl⟩) (h := ?_)) | fail); (try simp only [Act.put, zsA, zsB, zsC, hw1, hw2])
 (first | (refine tkA 5 ?_) | (refine tkB (v := undef) 5 (y := Or.inr ⟨by rfl, rfl⟩) (h := ?_)) | fail); (try simp only [Act.put, zsA, zsB, zsC, hw1, hw2])
 (first | (refine tkA 6 ?_) | (refine tkB (v := undef) 6 (y := Or.inr ⟨by rfl, rfl⟩) (h := ?_)) | fail); (try simp only [Act.put, zsA, zsB, zsC, hw1, hw2])
 refine tkR (rs := [3]) ?_; refine tkC (fun K hK => ?_) AllReadyH.nil; go_simp; refine hK.out _ _ (by first | exact q0 | go_keep) ?_; clear hHeld hK; intro hHeld; (try simp only [Act.put, zsA, zsB, zsC, hw1, hw2])
 first | (refine tkB (v := undef) 7 (y := Or.inr ⟨by rfl, rfl⟩) (h := ?_); (try simp only [Act.put, zsA, zsB, zsC, hw1, hw2])) | (refine tkR (rs := [7]) ?_; refine tkC (fun K hK => ?_) AllReadyH.nil; go_simp; (first | (go_at_call 81; refine (c2 _).mono ?_; rintro e w' ⟨rfl, rfl⟩)); refine hK.out _ _ (by first | exact q0 | go_keep) ?_; clear hHeld hK; intro hHeld; (try simp only [Act.put, zsA, zsB, zsC, hw1, hw2])) | fail
 (first | (refine tkA 8 ?_) | (refine tkB (v := undef) 8 (y := Or.inr ⟨by rfl, rfl⟩) (h := ?_)) | fail); (try simp only [Act.put, zsA, zsB, zsC, hw1, hw2])
 (first | (refine tkA 9 ?_) | (refine tkB (v := undef) 9 (y := Or.inr ⟨by rfl, rfl⟩) (h := ?_)) | fail); (try simp only [Act.put, zsA, zsB, zsC, hw1, hw2])
 refine tkR (rs := [10]) ?_; refine tkC (fun K hK => ?_) AllReadyH.nil; go_simp; refine hK.out _ _ (by first | exact q0 | go_keep) ?_; clear hHeld hK; intro hHeld; (try simp only [Act.put, zsA, zsB, zsC, hw1, hw2])
 refine wpAnyH_done (by kernel_rfl) ?_ _
 go_wp2_with fail
 have q1 : (((w.alloc (.cells #[.int .i64 A, .int .i64 (A + B), .int .i64 x.c, .int .i64 x.g] 33)).alloc (.cells #[.int .i64 0, .int .i64 0, .int .i64 0, .int .i64 0] 33)).drew).cell? ⟨w.heap.size, 1, none⟩ = some (.int .i64 (A + B)) := by simp [World.cell?_alloc_at]
 have hw3 : IntKind.i64.wrap (8 - (A + B)) = 8 - (A + B) := Go.IntWalk.i64_in _ (by omega)
 have hw4 : IntKind.i64.wrap (A + B + C) = A + B + C := Go.IntWalk.i64_in _ (by omega)
 refine wp_region_held_drew (S := (fun W => W.cell? ⟨w.heap.size, 1, none⟩ = some (.int .i64 (A + B)))) (by kernel_rfl) (by first | exact q1 | go_keep) ?_
 intro hHeld
 (first | (refine tkA 0 ?_) | (refine tkB (v := undef) 0 (y := Or.inr ⟨by rfl, rfl⟩) (h := ?_)) | fail); (try simp only [Act.put, zsA, zsB, zsC, hw3, hw4])
 (first | (refine tkA 1 ?_) | (refine tkB (v := undef) 1 (y := Or.inr ⟨by rfl, rfl⟩) (h := ?_)) | fail); (try simp only [Act.put, zsA, zsB, zsC, hw3, hw4])
 (first | (refine tkA 2 ?_) | (refine tkB (v := undef) 2 (y := Or.inr ⟨by rfl, rfl⟩) (h := ?_)) | fail); (try simp only [Act.put, zsA, zsB, zsC, hw3, hw4])
 (first | (refine tkA 4 ?_) | (refine tkB (v := undef) 4 (y := Or.inr ⟨by rfl, rfl⟩) (h := ?_)) | fail); (try simp only [Act.put, zsA, zsB, zsC, hw3, hw4])
 (first | (refine tkA 5 ?_) | (refine tkB (v := undef) 5 (y := Or.inr ⟨by rfl, rfl⟩) (h := ?_)) | fail); (try simp only [Act.put, zsA, zsB, zsC, hw3, hw4])
 (first | (refine tkA 6 ?_) | (refine tkB (v := undef) 6 (y := Or.inr ⟨by rfl, rfl⟩) (h := ?_)) | fail); (try simp only [Act.put, zsA, zsB, zsC, hw3, hw4])
 refine tkR (rs := [3]) ?_; refine tkC (fun K hK => ?_) AllReadyH.nil; go_simp; refine hK.out _ _ (by first | exact q1 | go_keep) ?_; clear hHeld hK; intro hHeld; (try simp only [Act.put, zsA, zsB, zsC, hw3, hw4])
 first | (refine tkB (v := undef) 7 (y := Or.inr ⟨by rfl, rfl⟩) (h := ?_); (try simp only [Act.put, zsA, zsB, zsC, hw3, hw4])) | (refine tkR (rs := [7]) ?_; refine tkC (fun K hK => ?_) AllReadyH.nil; go_simp; (first | (go_at_call 81; refine (c3 _).mono ?_; rintro e w' ⟨rfl, rfl⟩)); refine hK.out _ _ (by first | exact q1 | go_keep) ?_; clear hHeld hK; intro hHeld; (try simp only [Act.put, zsA, zsB, zsC, hw3, hw4])) | fail
 (first | (refine tkA 8 ?_) | (refine tkB (v := undef) 8 (y := Or.inr ⟨by rfl, rfl⟩) (h := ?_)) | fail); (try simp only [Act.put, zsA, zsB, zsC, hw3, hw4])
 (first | (refine tkA 9 ?_) | (refine tkB (v := undef) 9 (y := Or.inr ⟨by rfl, rfl⟩) (h := ?_)) | fail); (try simp only [Act.put, zsA, zsB, zsC, hw3, hw4])
 refine tkR (rs := [10]) ?_; refine tkC (fun K hK => ?_) AllReadyH.nil; go_simp; refine hK.out _ _ (by first | exact q1 | go_keep) ?_; clear hHeld hK; intro hHeld; (try simp only [Act.put, zsA, zsB, zsC, hw3, hw4])
 refine wpAnyH_done (by kernel_rfl) ?_ _
 go_wp2_with fail
 refine (c4 _).mono ?_
 rintro e w' ⟨rfl, rfl⟩
 go_wp2_with fail
 exact bodyPost_ret (v := (⟨A, A + B, A + B + C, G⟩ : Rg).v) (by simp [results, Tryz.results43, go_sem]) rfl ⟨rfl, (below2 _ _ _).drew.drew⟩
end Go.Proofs.YtidihdiffiffmaaGreatDoor
namespace Go.Proofs.YtidihdiffiffmaaGreatDoor
open Go.RowKit
set_option maxRecDepth 8000
set_option linter.unusedSimpArgs false
set_option linter.unusedVariables false
theorem below1 (w : World) (a : Obj) : Below w.heap.size w (w.alloc a) := (Below.refl _ _).alloc (Nat.le_refl _) _
theorem RBox.keep {W W' : World} {g : Nat} {l : Rg} (h : RBox W g l) (hb : Below W.heap.size W W') : RBox W' g l := by
 obtain ⟨a, b, c, d⟩ := h
 have hg := World.block_lt_of_cell? _ _ a
 exact ⟨(hb.cell (p := ⟨g, 0, none⟩) hg).trans a, (hb.cell (p := ⟨g, 1, none⟩) hg).trans b, (hb.cell (p := ⟨g, 2, none⟩) hg).trans c, (hb.cell (p := ⟨g, 3, none⟩) hg).trans d⟩
theorem rbox_alloc (w : World) (l : Rg) : RBox (w.alloc (.cells #[.int .i64 l.a, .int .i64 l.b, .int .i64 l.c, .int .i64 l.g] 33)) w.heap.size l := by
 refine ⟨?_, ?_, ?_, ?_⟩ <;> simp [World.cell?_alloc_at]
set_option maxHeartbeats 400000 in
theorem isRing_any (r : Int) (w : World) :
    Calls Tryz.prog 164 #[.int .i64 r] w fun e w' => e = .returned (.bool (isR r)) ∧ w' = w := by
 by_cases h : 0 ≤ r
 ·have e1 : isR r = decide (r ≤ 7) := by simp [isR, h]
  rw [e1]
  go_enter Tryz.func164, Tryz.ntmps164
  go_wp2
  go_ret
  exact ⟨rfl, rfl⟩
 ·have e1 : isR r = false := by simp [isR, h]
  have h' : decide (0 ≤ r) = false := by simpa using h
  rw [e1]
  go_enter Tryz.func164, Tryz.ntmps164
  go_wp2
  go_ret
  exact ⟨rfl, rfl⟩
set_option maxHeartbeats 400000 in
theorem mayRead_any (x : Rg) (r : Int) (w : World) :
    Calls Tryz.prog 145 #[x.v, .int .i64 r] w fun e w' => e = .returned (.bool (mayR x r)) ∧ Below w.heap.size w w' := by
 have hc := isRing_any r
 cases h : isR r
 ·have e1 : mayR x r = false := by simp [isR] at h; simp [mayR]; omega
  rw [e1]; rw [h] at hc
  go_enter Tryz.func145, Tryz.ntmps145
  go_wp2_with (go_at_call 164; refine (hc _).mono ?_; rintro e w' ⟨rfl, rfl⟩)
  go_ret
  exact ⟨rfl, below1 _ _⟩
 ·have e1 : mayR x r = decide (r ≤ x.b) := by simp [isR] at h; simp [mayR, h]
  rw [e1]; rw [h] at hc
  go_enter Tryz.func145, Tryz.ntmps145
  go_wp2_with (go_at_call 164; refine (hc _).mono ?_; rintro e w' ⟨rfl, rfl⟩)
  go_ret
  exact ⟨rfl, below1 _ _⟩
set_option maxHeartbeats 400000 in
theorem mayWrite_any (x : Rg) (r : Int) (w : World) :
    Calls Tryz.prog 146 #[x.v, .int .i64 r] w fun e w' => e = .returned (.bool (mayW x r)) ∧ Below w.heap.size w w' := by
 have hc := isRing_any r
 cases h : isR r
 ·have e1 : mayW x r = false := by simp [isR] at h; simp [mayW]; omega
  rw [e1]; rw [h] at hc
  go_enter Tryz.func146, Tryz.ntmps146
  go_wp2_with (go_at_call 164; refine (hc _).mono ?_; rintro e w' ⟨rfl, rfl⟩)
  go_ret
  exact ⟨rfl, below1 _ _⟩
 ·have e1 : mayW x r = decide (r ≤ x.a) := by simp [isR] at h; simp [mayW, h]
  rw [e1]; rw [h] at hc
  go_enter Tryz.func146, Tryz.ntmps146
  go_wp2_with (go_at_call 164; refine (hc _).mono ?_; rintro e w' ⟨rfl, rfl⟩)
  go_ret
  exact ⟨rfl, below1 _ _⟩
set_option maxHeartbeats 400000 in
theorem mayExec_any (x : Rg) (r : Int) (w : World) :
    Calls Tryz.prog 130 #[x.v, .int .i64 r] w fun e w' => e = .returned (.bool (mayX x r)) ∧ Below w.heap.size w w' := by
 have hc := isRing_any r
 cases h : isR r
 ·have e1 : mayX x r = false := by simp [isR] at h; simp [mayX]; omega
  rw [e1]; rw [h] at hc
  go_enter Tryz.func130, Tryz.ntmps130
  go_wp2_with (go_at_call 164; refine (hc _).mono ?_; rintro e w' ⟨rfl, rfl⟩)
  go_ret
  exact ⟨rfl, below1 _ _⟩
 ·by_cases h1 : x.a ≤ r
  ·have e1 : mayX x r = decide (r ≤ x.b) := by simp [isR] at h; simp [mayX, h, h1]
   rw [e1]; rw [h] at hc
   go_enter Tryz.func130, Tryz.ntmps130
   go_wp2_with (go_at_call 164; refine (hc _).mono ?_; rintro e w' ⟨rfl, rfl⟩)
   go_ret
   exact ⟨rfl, below1 _ _⟩
  ·have e1 : mayX x r = false := by simp [mayX, h1]
   have h' : decide (x.a ≤ r) = false := by simpa using h1
   rw [e1]; rw [h] at hc
   go_enter Tryz.func130, Tryz.ntmps130
   go_wp2_with (go_at_call 164; refine (hc _).mono ?_; rintro e w' ⟨rfl, rfl⟩)
   go_ret
   exact ⟨rfl, below1 _ _⟩
def callN (x : Rg) (off r : Int) : Int := if off < 0 ∨ 16 ≤ off ∨ r < 0 ∨ 7 < r then 0 else if x.a ≤ r ∧ r ≤ x.b then r else if x.b < r ∧ r ≤ x.c ∧ off < x.g then x.b else if x.a ≤ r then 0 else x.a
def callE (x : Rg) (off r : Int) : Int := if off < 0 ∨ 16 ≤ off ∨ r < 0 ∨ 7 < r then 34 else if x.a ≤ r ∧ r ≤ x.b then 0 else if x.b < r ∧ r ≤ x.c ∧ off < x.g then 0 else if x.a ≤ r then 34 else 0
set_option maxHeartbeats 2000000 in
theorem rgcall_any (x : Rg) (off r : Int) (w : World) (hx : OkR x) :
    Calls Tryz.prog 161 #[x.v, .int .i64 off, .int .i64 r] w fun e w' => e = .returned (.tuple #[.int .i64 (callN x off r), .int .i64 (callE x off r)]) ∧ Below w.heap.size w w' := by
 obtain ⟨x0, x1, x2, x3, x4, x5⟩ := hx
 have hc := isRing_any r
 have hm := mayExec_any x r
 have hb := rbox_alloc w x
 have hB := below1 w (.cells #[.int .i64 x.a, .int .i64 x.b, .int .i64 x.c, .int .i64 x.g] 33)
 by_cases h0 : off < 0
 ·have e1 : callN x off r = 0 := by simp only [callN]; rw [if_pos (by omega)]
  have e2 : callE x off r = 34 := by simp only [callE]; rw [if_pos (by omega)]
  rw [e1, e2]
  go_enter Tryz.func161, Tryz.ntmps161
  go_wp2
  exact bodyPost_ret (v := .tuple #[.int .i64 (0), .int .i64 34]) (by simp [results, Tryz.results161, go_sem]) rfl ⟨rfl, below1 _ _⟩
 by_cases h1 : 16 ≤ off
 ·have e1 : callN x off r = 0 := by simp only [callN]; rw [if_pos (by omega)]
  have e2 : callE x off r = 34 := by simp only [callE]; rw [if_pos (by omega)]
  rw [e1, e2]
  go_enter Tryz.func161, Tryz.ntmps161
  go_wp2
  exact bodyPost_ret (v := .tuple #[.int .i64 (0), .int .i64 34]) (by simp [results, Tryz.results161, go_sem]) rfl ⟨rfl, below1 _ _⟩
 cases h2 : isR r
 ·have h2' := h2
  simp [isR] at h2'
  have e1 : callN x off r = 0 := by simp only [callN]; rw [if_pos (by omega)]
  have e2 : callE x off r = 34 := by simp only [callE]; rw [if_pos (by omega)]
  rw [e1, e2]
  rw [h2] at hc
  go_enter Tryz.func161, Tryz.ntmps161
  go_wp2_with (first | (go_at_call 164; refine (hc _).mono ?_; rintro e w' ⟨rfl, rfl⟩) | fail)
  exact bodyPost_ret (v := .tuple #[.int .i64 (0), .int .i64 34]) (by simp [results, Tryz.results161, go_sem]) rfl ⟨rfl, below1 _ _⟩
 have h2' := h2
 simp [isR] at h2'
 rw [h2] at hc
 by_cases h3 : x.a ≤ r ∧ r ≤ x.b
 ·obtain ⟨h3a, h3b⟩ := id h3
  have e1 : callN x off r = r := by simp only [callN]; rw [if_neg (by omega), if_pos (by omega)]
  have e2 : callE x off r = 0 := by simp only [callE]; rw [if_neg (by omega), if_pos (by omega)]
  have e3 : mayX x r = true := by simp [mayX]; omega
  rw [e1, e2]
  rw [e3] at hm
  go_enter Tryz.func161, Tryz.ntmps161
  go_wp2_with (first | (go_at_call 164; refine (hc _).mono ?_; rintro e w' ⟨rfl, rfl⟩) | fail)
  refine (hm _).mono ?_
  rintro e w1 ⟨rfl, hB1⟩
  obtain ⟨z0, z1, z2, z3⟩ := hb.keep hB1
  go_wp2_with fail
  exact bodyPost_ret (v := .tuple #[.int .i64 (r), .int .i64 0]) (by simp [results, Tryz.results161, go_sem]) rfl ⟨rfl, Below.then hB hB1⟩
 by_cases h4 : r ≤ x.b
 ·have h5 : r < x.a := by omega
  have e1 : callN x off r = x.a := by simp only [callN]; rw [if_neg (by omega), if_neg (by omega), if_neg (by omega), if_neg (by omega)]
  have e2 : callE x off r = 0 := by simp only [callE]; rw [if_neg (by omega), if_neg (by omega), if_neg (by omega), if_neg (by omega)]
  have e3 : mayX x r = false := by simp [mayX]; omega
  rw [e1, e2]
  rw [e3] at hm
  go_enter Tryz.func161, Tryz.ntmps161
  go_wp2_with (first | (go_at_call 164; refine (hc _).mono ?_; rintro e w' ⟨rfl, rfl⟩) | fail)
  refine (hm _).mono ?_
  rintro e w1 ⟨rfl, hB1⟩
  obtain ⟨z0, z1, z2, z3⟩ := hb.keep hB1
  go_wp2_with fail
  exact bodyPost_ret (v := .tuple #[.int .i64 (x.a), .int .i64 0]) (by simp [results, Tryz.results161, go_sem]) rfl ⟨rfl, Below.then hB hB1⟩
 have h6 : x.b < r := by omega
 have h7 : x.a ≤ r := by omega
 by_cases h8 : r ≤ x.c
 ·by_cases h9 : off < x.g
  ·skip
   have e1 : callN x off r = x.b := by simp only [callN]; rw [if_neg (by omega), if_neg (by omega), if_pos (by omega)]
   have e2 : callE x off r = 0 := by simp only [callE]; rw [if_neg (by omega), if_neg (by omega), if_pos (by omega)]
   have e3 : mayX x r = false := by simp [mayX]; omega
   rw [e1, e2]
   rw [e3] at hm
   go_enter Tryz.func161, Tryz.ntmps161
   go_wp2_with (first | (go_at_call 164; refine (hc _).mono ?_; rintro e w' ⟨rfl, rfl⟩) | fail)
   refine (hm _).mono ?_
   rintro e w1 ⟨rfl, hB1⟩
   obtain ⟨z0, z1, z2, z3⟩ := hb.keep hB1
   go_wp2_with fail
   exact bodyPost_ret (v := .tuple #[.int .i64 (x.b), .int .i64 0]) (by simp [results, Tryz.results161, go_sem]) rfl ⟨rfl, Below.then hB hB1⟩
  ·skip
   have e1 : callN x off r = 0 := by simp only [callN]; rw [if_neg (by omega), if_neg (by omega), if_neg (by omega), if_pos (by omega)]
   have e2 : callE x off r = 34 := by simp only [callE]; rw [if_neg (by omega), if_neg (by omega), if_neg (by omega), if_pos (by omega)]
   have e3 : mayX x r = false := by simp [mayX]; omega
   rw [e1, e2]
   rw [e3] at hm
   go_enter Tryz.func161, Tryz.ntmps161
   go_wp2_with (first | (go_at_call 164; refine (hc _).mono ?_; rintro e w' ⟨rfl, rfl⟩) | fail)
   refine (hm _).mono ?_
   rintro e w1 ⟨rfl, hB1⟩
   obtain ⟨z0, z1, z2, z3⟩ := hb.keep hB1
   go_wp2_with fail
   exact bodyPost_ret (v := .tuple #[.int .i64 (0), .int .i64 34]) (by simp [results, Tryz.results161, go_sem]) rfl ⟨rfl, Below.then hB hB1⟩
 ·skip
  have e1 : callN x off r = 0 := by simp only [callN]; rw [if_neg (by omega), if_neg (by omega), if_neg (by omega), if_pos (by omega)]
  have e2 : callE x off r = 34 := by simp only [callE]; rw [if_neg (by omega), if_neg (by omega), if_neg (by omega), if_pos (by omega)]
  have e3 : mayX x r = false := by simp [mayX]; omega
  rw [e1, e2]
  rw [e3] at hm
  go_enter Tryz.func161, Tryz.ntmps161
  go_wp2_with (first | (go_at_call 164; refine (hc _).mono ?_; rintro e w' ⟨rfl, rfl⟩) | fail)
  refine (hm _).mono ?_
  rintro e w1 ⟨rfl, hB1⟩
  obtain ⟨z0, z1, z2, z3⟩ := hb.keep hB1
  go_wp2_with fail
  exact bodyPost_ret (v := .tuple #[.int .i64 (0), .int .i64 34]) (by simp [results, Tryz.results161, go_sem]) rfl ⟨rfl, Below.then hB hB1⟩
def follow (p : Ptr) (x : Rg) (r : Int) : Ptr := ⟨p.s, p.f, gmax (gmax p.r x.a) r⟩
set_option maxHeartbeats 1000000 in
theorem follow_any (p : Ptr) (x : Rg) (r : Int) (w : World) :
    Calls Tryz.prog 159 #[p.v, x.v, .int .i64 r] w fun e w' => e = .returned (follow p x r).v ∧ Below w.heap.size w w' := by
 go_enter Tryz.func159, Tryz.ntmps159
 go_wp2
 all_goals (refine bodyPost_ret (v := (follow p x r).v) ?_ rfl ⟨rfl, below3 _ _ _ _⟩; have e : (follow p x r).r = _ := rfl; simp only [follow, gmax] at e ⊢; simp [results, Tryz.results159, go_sem, *] <;> omega)
end Go.Proofs.YtidihdiffiffmaaGreatDoor
namespace Go.Proofs.YtidihdiffiffmaaGreatDoor
def rung (n : Nat) : Nat := n % 9223372036854775808
def sgn (n : Nat) : Bool := n / 9223372036854775808 % 2 == 1
def sg (s : Bool) (n : Nat) : Int := if s then -(n : Int) else (n : Int)
def key (n : Nat) : Int := sg (sgn n) (rung n)
def isN (n : Nat) : Bool := FloatKind.f64.format.order n n != some .eq
def val (r : Nat) : Nat := if r < 4503599627370496 then r else (4503599627370496 + r % 4503599627370496) * 2 ^ (r / 4503599627370496 - 1)
theorem read_eq (n : Nat) : FloatKind.f64.format.read n =
    if rung n < 4503599627370496 then .number (sgn n) (rung n) (-1074)
    else if rung n < 9218868437227405312 then .number (sgn n) (4503599627370496 + rung n % 4503599627370496) (-1074 + (rung n / 4503599627370496 - 1 : Nat))
    else if rung n = 9218868437227405312 then .infinity (sgn n)
    else .nan (sgn n) (rung n - 9218868437227405312) := rfl
theorem val_mono_lt {a b : Nat} (h : a < b) : val a < val b := by
 unfold val
 have p1 : 0 < 2 ^ (a / 4503599627370496 - 1) := Nat.two_pow_pos _
 have p2 : 0 < 2 ^ (b / 4503599627370496 - 1) := Nat.two_pow_pos _
 by_cases ha : a < 4503599627370496
 ·rw [if_pos ha]
  by_cases hb : b < 4503599627370496
  ·rw [if_pos hb]; exact h
  ·rw [if_neg hb]
   have : 4503599627370496 * 1 ≤ (4503599627370496 + b % 4503599627370496) * 2 ^ (b / 4503599627370496 - 1) := Nat.mul_le_mul (by omega) p2
   omega
 ·have hb : ¬ b < 4503599627370496 := by omega
  rw [if_neg ha, if_neg hb]
  by_cases hq : a / 4503599627370496 = b / 4503599627370496
  ·rw [← hq]
   exact Nat.mul_lt_mul_of_pos_right (by omega) p1
  ·have hlt : a / 4503599627370496 < b / 4503599627370496 := by omega
   have e : 2 ^ (b / 4503599627370496 - 1) = 2 ^ (a / 4503599627370496 - 1) * 2 ^ (b / 4503599627370496 - a / 4503599627370496) := by
    rw [← Nat.pow_add]; congr 1; omega
   have p3 : 2 ≤ 2 ^ (b / 4503599627370496 - a / 4503599627370496) := by
    have : 2 ^ 1 ≤ 2 ^ (b / 4503599627370496 - a / 4503599627370496) := Nat.pow_le_pow_right (by omega) (by omega)
    omega
   have l1 : (4503599627370496 + a % 4503599627370496) * 2 ^ (a / 4503599627370496 - 1) < 9007199254740992 * 2 ^ (a / 4503599627370496 - 1) := Nat.mul_lt_mul_of_pos_right (by omega) p1
   have l2 : 9007199254740992 * 2 ^ (a / 4503599627370496 - 1) ≤ 4503599627370496 * 2 ^ (b / 4503599627370496 - 1) := by
    rw [e]
    have : 4503599627370496 * 2 * 2 ^ (a / 4503599627370496 - 1) ≤ 4503599627370496 * 2 ^ (b / 4503599627370496 - a / 4503599627370496) * 2 ^ (a / 4503599627370496 - 1) := Nat.mul_le_mul_right _ (Nat.mul_le_mul_left _ p3)
    rw [Nat.mul_comm (2 ^ (a / 4503599627370496 - 1)), ← Nat.mul_assoc]
    omega
   have l3 : 4503599627370496 * 2 ^ (b / 4503599627370496 - 1) ≤ (4503599627370496 + b % 4503599627370496) * 2 ^ (b / 4503599627370496 - 1) := Nat.mul_le_mul_right _ (by omega)
   omega
theorem val_zero : val 0 = 0 := rfl
theorem val_lt_iff {a b : Nat} : val a < val b ↔ a < b := by
 constructor
 ·intro h
  rcases Nat.lt_trichotomy a b with h1 | h1 | h1
  ·exact h1
  ·subst h1; omega
  ·have := val_mono_lt h1; omega
 ·exact val_mono_lt
theorem sg_lt_iff (s t : Bool) (a b : Nat) : sg s (val a) < sg t (val b) ↔ sg s a < sg t b := by
 have h1 := @val_lt_iff a b
 have h2 := @val_lt_iff b a
 have h3 := @val_lt_iff 0 a
 have h4 := @val_lt_iff 0 b
 rw [val_zero] at h3 h4
 cases s <;> cases t <;> simp only [sg, if_true, Bool.false_eq_true, if_false] <;> omega
theorem sg_eq_iff (s t : Bool) (a b : Nat) : sg s (val a) = sg t (val b) ↔ sg s a = sg t b := by
 have h1 := sg_lt_iff s t a b
 have h2 := sg_lt_iff t s b a
 omega
def cmpI (a b : Int) : Ordering := if a < b then .lt else if a = b then .eq else .gt
theorem compare_int (a b : Int) : compare a b = cmpI a b := rfl
theorem cmpI_val (s t : Bool) (a b : Nat) : cmpI (sg s (val a)) (sg t (val b)) = cmpI (sg s a) (sg t b) := by
 unfold cmpI
 simp only [sg_lt_iff, sg_eq_iff]
theorem cmpI_mul (a b : Int) (k : Nat) (hk : 0 < k) : cmpI (a * k) (b * k) = cmpI a b := by
 have h1 : a * (k : Int) < b * (k : Int) ↔ a < b := Int.mul_lt_mul_right (by omega)
 have h2 : a * (k : Int) = b * (k : Int) ↔ a = b := Int.mul_eq_mul_right_iff (by omega)
 unfold cmpI
 simp only [h1, h2]
theorem signed_eq (s : Bool) (m k : Nat) : Ieee.signed s m k = sg s (m * 2 ^ k) := by
 unfold Ieee.signed sg
 rw [Nat.shiftLeft_eq]
theorem sg_mul (s : Bool) (n k : Nat) : sg s n * (k : Int) = sg s (n * k) := by
 cases s <;> simp [sg, Int.neg_mul]
def mag (r : Nat) : Nat := if r < 4503599627370496 then r else 4503599627370496 + r % 4503599627370496
def up (r : Nat) : Nat := r / 4503599627370496 - 1
theorem val_eq (r : Nat) : val r = mag r * 2 ^ up r := by
 unfold val mag up
 by_cases h : r < 4503599627370496
 ·rw [if_pos h, if_pos h, show r / 4503599627370496 = 0 from by omega]; simp
 ·rw [if_neg h, if_neg h]
theorem read_fin {n : Nat} (h : rung n < 9218868437227405312) : FloatKind.f64.format.read n = .number (sgn n) (mag (rung n)) (-1074 + (up (rung n) : Int)) := by
 rw [read_eq]
 unfold mag up
 by_cases h1 : rung n < 4503599627370496
 ·rw [if_pos h1, if_pos h1, show rung n / 4503599627370496 = 0 from by omega]; rfl
 ·rw [if_neg h1, if_pos h, if_neg h1]
theorem read_inf {n : Nat} (h : rung n = 9218868437227405312) : FloatKind.f64.format.read n = .infinity (sgn n) := by
 rw [read_eq, if_neg (by omega), if_neg (by omega), if_pos h]
theorem read_nan {n : Nat} (h : 9218868437227405312 < rung n) : FloatKind.f64.format.read n = .nan (sgn n) (rung n - 9218868437227405312) := by
 rw [read_eq, if_neg (by omega), if_neg (by omega), if_neg (by omega)]
theorem order_scaled (s t : Bool) (m n i j : Nat) :
    Ieee.Datum.order (.number s m (-1074 + (i : Int))) (.number t n (-1074 + (j : Int))) = some (cmpI (sg s (m * 2 ^ i)) (sg t (n * 2 ^ j))) := by
 have e1 : (-1074 + (i : Int) - min (-1074 + (i : Int)) (-1074 + (j : Int))).toNat = i - min i j := by omega
 have e2 : (-1074 + (j : Int) - min (-1074 + (i : Int)) (-1074 + (j : Int))).toNat = j - min i j := by omega
 have f1 : m * 2 ^ i = m * 2 ^ (i - min i j) * 2 ^ min i j := by rw [Nat.mul_assoc, ← Nat.pow_add]; congr 2; omega
 have f2 : n * 2 ^ j = n * 2 ^ (j - min i j) * 2 ^ min i j := by rw [Nat.mul_assoc, ← Nat.pow_add]; congr 2; omega
 simp only [Ieee.Datum.order, e1, e2, compare_int, signed_eq]
 rw [f1, f2, ← sg_mul s (m * 2 ^ (i - min i j)), ← sg_mul t (n * 2 ^ (j - min i j)), cmpI_mul _ _ _ (Nat.two_pow_pos _)]
theorem sg_inf (s : Bool) {r : Nat} (h : r < 9218868437227405312) (t : Bool) : cmpI (sg s 9218868437227405312) (sg t r) = (if s then .lt else .gt) := by
 unfold cmpI sg
 cases s <;> cases t <;> simp only [if_true, Bool.false_eq_true, if_false]
 ·rw [if_neg (by omega), if_neg (by omega)]
 ·rw [if_neg (by omega), if_neg (by omega)]
 ·rw [if_pos (by omega)]
 ·rw [if_pos (by omega)]
theorem sg_inf' (t : Bool) {r : Nat} (h : r < 9218868437227405312) (s : Bool) : cmpI (sg s r) (sg t 9218868437227405312) = (if t then .gt else .lt) := by
 unfold cmpI sg
 cases s <;> cases t <;> simp only [if_true, Bool.false_eq_true, if_false]
 ·rw [if_pos (by omega)]
 ·rw [if_neg (by omega), if_neg (by omega)]
 ·rw [if_pos (by omega)]
 ·rw [if_neg (by omega), if_neg (by omega)]
theorem order_key {x y : Nat} (hx : rung x ≤ 9218868437227405312) (hy : rung y ≤ 9218868437227405312) :
    FloatKind.f64.format.order x y = some (cmpI (key x) (key y)) := by
 unfold Ieee.Format.order key
 by_cases h1 : rung x = 9218868437227405312
 ·by_cases h2 : rung y = 9218868437227405312
  ·rw [read_inf h1, read_inf h2, h1, h2]
   cases sgn x <;> cases sgn y <;> rfl
  ·have h3 : rung y < 9218868437227405312 := by omega
   rw [read_inf h1, read_fin h3, h1, sg_inf _ h3]; rfl
 ·have h4 : rung x < 9218868437227405312 := by omega
  by_cases h2 : rung y = 9218868437227405312
  ·rw [read_inf h2, read_fin h4, h2, sg_inf' _ h4]; rfl
  ·have h3 : rung y < 9218868437227405312 := by omega
   rw [read_fin h3, read_fin h4, order_scaled, ← val_eq, ← val_eq, cmpI_val]
theorem order_nan_left {x : Nat} (y : Nat) (hx : 9218868437227405312 < rung x) : FloatKind.f64.format.order x y = none := by
 unfold Ieee.Format.order
 rw [read_nan hx]; rfl
theorem isN_iff (n : Nat) : isN n = decide (9218868437227405312 < rung n) := by
 unfold isN
 by_cases h : 9218868437227405312 < rung n
 ·rw [order_nan_left n h, decide_eq_true h]; rfl
 ·rw [order_key (by omega) (by omega), decide_eq_false h]
  unfold cmpI
  rw [if_neg (by omega), if_pos rfl]; rfl
theorem order_lt {x y : Nat} (hx : rung x ≤ 9218868437227405312) (hy : rung y ≤ 9218868437227405312) :
    (FloatKind.f64.format.order x y == some .lt) = decide (key x < key y) := by
 rw [order_key hx hy]; unfold cmpI
 by_cases h : key x < key y
 ·rw [if_pos h, decide_eq_true h]; rfl
 ·rw [if_neg h, decide_eq_false h]
  by_cases h2 : key x = key y
  ·rw [if_pos h2]; rfl
  ·rw [if_neg h2]; rfl
theorem order_gt {x y : Nat} (hx : rung x ≤ 9218868437227405312) (hy : rung y ≤ 9218868437227405312) :
    (FloatKind.f64.format.order x y == some .gt) = decide (key y < key x) := by
 rw [order_key hx hy]; unfold cmpI
 by_cases h : key x < key y
 ·rw [if_pos h, decide_eq_false (by omega)]; rfl
 ·rw [if_neg h]
  by_cases h2 : key x = key y
  ·rw [if_pos h2, decide_eq_false (by omega)]; rfl
  ·rw [if_neg h2, decide_eq_true (by omega)]; rfl
theorem order_eq {x y : Nat} (hx : rung x ≤ 9218868437227405312) (hy : rung y ≤ 9218868437227405312) :
    (FloatKind.f64.format.order x y == some .eq) = decide (key x = key y) := by
 rw [order_key hx hy]; unfold cmpI
 by_cases h : key x < key y
 ·rw [if_pos h, decide_eq_false (by omega)]; rfl
 ·rw [if_neg h]
  by_cases h2 : key x = key y
  ·rw [if_pos h2, decide_eq_true h2]; rfl
  ·rw [if_neg h2, decide_eq_false h2]; rfl
end Go.Proofs.YtidihdiffiffmaaGreatDoor
namespace Go.Proofs.YtidihdiffiffmaaGreatDoor
def lastUp (X : Nat) (P : Int) : Nat := (max (P + (X.log2 : Int) - 52) (-1074) + 1074).toNat
def nr (X : Nat) (P : Int) : Nat :=
 lastUp X P * 4503599627370496 + Ieee.Toward.even.cut false (X * 2 ^ (P - (-1074 + (lastUp X P : Int))).toNat) (-1074 + (lastUp X P : Int) - P).toNat
def wd (s : Bool) (r : Nat) : Nat := if s = true then 9223372036854775808 + r else r
end Go.Proofs.YtidihdiffiffmaaGreatDoor
namespace Go.Proofs.YtidihdiffiffmaaGreatDoor
open Go.RowKit
set_option maxRecDepth 8000
def U (a : Int) : Nat := (IntKind.u64.wrap a).toNat
def S (n : Nat) : Int := wrap64 (n : Int)
def NAN : Int := 9221120237041090561
def toW (n : Nat) : Int := if isN n = true then NAN else S n
def fop (o : BinOp) (a b : Int) : Int :=
 match floatBits o .f64 (U a) (U b) with
 | some r => toW r
 | none => NAN
theorem frombits_run (x : Int) (w : World) : (callFunc 167 #[.int .u64 x]).run Tryz.prog w = .ok (.value (.float .f64 x.toNat)) w := by kernel_rfl
theorem bits_run (n : Nat) (w : World) : (callFunc 134 #[.float .f64 n]).run Tryz.prog w = .ok (.value (.int .u64 (n : Int))) w := by kernel_rfl
theorem nan_cut (x y t : Nat) : isN ((Question.nanBits .f64 x y).cut t) = true := by
 rw [isN_iff]
 apply decide_eq_true
 simp only [Question.cut, rung]
 have h : t % 2 = 0 ∨ t % 2 = 1 := by omega
 have hl : t / 2 % (2 ^ 52 - 1) < 4503599627370495 := Nat.mod_lt _ (by decide)
 rcases h with h | h <;> rw [h] <;> omega
theorem run_float_none {P : Program} (w : World) (op : BinOp) (t : TypeId) (x y : Nat) (h : floatBits op .f64 x y = none) (ho : op = .add ∨ op = .sub ∨ op = .mul ∨ op = .quo) :
    ∃ r, isN r = true ∧ (binOp op t (.float .f64 x) (.float .f64 y)).run P w = .ok (.float .f64 r) w.drew := by
 refine ⟨(Question.nanBits .f64 x y).cut (w.tape w.drawn (.nanBits .f64 x y)), nan_cut _ _ _, ?_⟩
 unfold floatBits at h
 rcases ho with rfl | rfl | rfl | rfl <;> simp only at h <;> simp [binOp, Op.floatArith, h, go_sem] <;> rfl
set_option maxHeartbeats 400000 in
theorem word_toFloat_any (a : Int) (w : World) :
    Calls Tryz.prog 172 #[.int .i64 a] w fun e w' => e = .returned (.float .f64 (U a)) ∧ w' = w := by
 have hf := frombits_run
 go_enter Tryz.func172, Tryz.ntmps172
 go_wp2
 go_ret
 exact ⟨rfl, rfl⟩
set_option maxHeartbeats 400000 in
theorem isNaN_any (n : Nat) (w : World) :
    Calls Tryz.prog 173 #[.float .f64 n] w fun e w' => e = .returned (.bool (isN n)) ∧ w' = w := by
 go_enter Tryz.func173, Tryz.ntmps173
 go_wp2
 go_ret
 exact ⟨rfl, rfl⟩
set_option maxHeartbeats 400000 in
theorem word_toWord_any (n : Nat) (w : World) :
    Calls Tryz.prog 156 #[.float .f64 n] w fun e w' => e = .returned (.int .i64 (toW n)) ∧ w' = w := by
 have hf := bits_run
 unfold toW
 by_cases h : isN n = true
 ·rw [if_pos h]
  go_enter Tryz.func156, Tryz.ntmps156
  go_wp2_with (go_at_call 173; refine (isNaN_any _ _).mono ?_; rintro e w' ⟨rfl, rfl⟩)
  go_ret
  exact ⟨rfl, rfl⟩
 ·rw [if_neg h]
  have h' : isN n = false := by simpa using h
  go_enter Tryz.func156, Tryz.ntmps156
  go_wp2_with (go_at_call 173; refine (isNaN_any _ _).mono ?_; rintro e w' ⟨rfl, rfl⟩)
  go_ret
  exact ⟨rfl, rfl⟩
set_option maxHeartbeats 400000 in
theorem word_FAdd_any (a b : Int) (w : World) :
    Calls Tryz.prog 151 #[.int .i64 a, .int .i64 b] w fun e w' => e = .returned (.int .i64 (fop .add a b)) ∧ ∃ n, w' = w.drewN n := by
 unfold fop
 cases h : floatBits .add .f64 (U a) (U b) with
 | none =>
  obtain ⟨r, hr, hrun⟩ := run_float_none (P := Tryz.prog) w .add 181 (U a) (U b) h (by simp)
  go_enter Tryz.func151, Tryz.ntmps151
  go_wp2_with (first | (go_at_call 172; refine (word_toFloat_any _ _).mono ?_; rintro e w' ⟨rfl, rfl⟩) | (go_at_call 156; refine (word_toWord_any _ _).mono ?_; rintro e w' ⟨rfl, rfl⟩))
  go_ret
  exact ⟨by simp [toW, hr], 1, rfl⟩
 | some r =>
  have hrun := fun w => run_float_arith (P := Tryz.prog) w .add 181 .f64 (U a) (U b) r h
  go_enter Tryz.func151, Tryz.ntmps151
  go_wp2_with (first | (go_at_call 172; refine (word_toFloat_any _ _).mono ?_; rintro e w' ⟨rfl, rfl⟩) | (go_at_call 156; refine (word_toWord_any _ _).mono ?_; rintro e w' ⟨rfl, rfl⟩))
  go_ret
  exact ⟨rfl, 0, rfl⟩
set_option maxHeartbeats 400000 in
theorem word_FSub_any (a b : Int) (w : World) :
    Calls Tryz.prog 152 #[.int .i64 a, .int .i64 b] w fun e w' => e = .returned (.int .i64 (fop .sub a b)) ∧ ∃ n, w' = w.drewN n := by
 unfold fop
 cases h : floatBits .sub .f64 (U a) (U b) with
 | none =>
  obtain ⟨r, hr, hrun⟩ := run_float_none (P := Tryz.prog) w .sub 181 (U a) (U b) h (by simp)
  go_enter Tryz.func152, Tryz.ntmps152
  go_wp2_with (first | (go_at_call 172; refine (word_toFloat_any _ _).mono ?_; rintro e w' ⟨rfl, rfl⟩) | (go_at_call 156; refine (word_toWord_any _ _).mono ?_; rintro e w' ⟨rfl, rfl⟩))
  go_ret
  exact ⟨by simp [toW, hr], 1, rfl⟩
 | some r =>
  have hrun := fun w => run_float_arith (P := Tryz.prog) w .sub 181 .f64 (U a) (U b) r h
  go_enter Tryz.func152, Tryz.ntmps152
  go_wp2_with (first | (go_at_call 172; refine (word_toFloat_any _ _).mono ?_; rintro e w' ⟨rfl, rfl⟩) | (go_at_call 156; refine (word_toWord_any _ _).mono ?_; rintro e w' ⟨rfl, rfl⟩))
  go_ret
  exact ⟨rfl, 0, rfl⟩
set_option maxHeartbeats 400000 in
theorem word_FMul_any (a b : Int) (w : World) :
    Calls Tryz.prog 153 #[.int .i64 a, .int .i64 b] w fun e w' => e = .returned (.int .i64 (fop .mul a b)) ∧ ∃ n, w' = w.drewN n := by
 unfold fop
 cases h : floatBits .mul .f64 (U a) (U b) with
 | none =>
  obtain ⟨r, hr, hrun⟩ := run_float_none (P := Tryz.prog) w .mul 181 (U a) (U b) h (by simp)
  go_enter Tryz.func153, Tryz.ntmps153
  go_wp2_with (first | (go_at_call 172; refine (word_toFloat_any _ _).mono ?_; rintro e w' ⟨rfl, rfl⟩) | (go_at_call 156; refine (word_toWord_any _ _).mono ?_; rintro e w' ⟨rfl, rfl⟩))
  go_ret
  exact ⟨by simp [toW, hr], 1, rfl⟩
 | some r =>
  have hrun := fun w => run_float_arith (P := Tryz.prog) w .mul 181 .f64 (U a) (U b) r h
  go_enter Tryz.func153, Tryz.ntmps153
  go_wp2_with (first | (go_at_call 172; refine (word_toFloat_any _ _).mono ?_; rintro e w' ⟨rfl, rfl⟩) | (go_at_call 156; refine (word_toWord_any _ _).mono ?_; rintro e w' ⟨rfl, rfl⟩))
  go_ret
  exact ⟨rfl, 0, rfl⟩
set_option maxHeartbeats 400000 in
theorem word_FDiv_any (a b : Int) (w : World) :
    Calls Tryz.prog 154 #[.int .i64 a, .int .i64 b] w fun e w' => e = .returned (.int .i64 (fop .quo a b)) ∧ ∃ n, w' = w.drewN n := by
 unfold fop
 cases h : floatBits .quo .f64 (U a) (U b) with
 | none =>
  obtain ⟨r, hr, hrun⟩ := run_float_none (P := Tryz.prog) w .quo 181 (U a) (U b) h (by simp)
  go_enter Tryz.func154, Tryz.ntmps154
  go_wp2_with (first | (go_at_call 172; refine (word_toFloat_any _ _).mono ?_; rintro e w' ⟨rfl, rfl⟩) | (go_at_call 156; refine (word_toWord_any _ _).mono ?_; rintro e w' ⟨rfl, rfl⟩))
  go_ret
  exact ⟨by simp [toW, hr], 1, rfl⟩
 | some r =>
  have hrun := fun w => run_float_arith (P := Tryz.prog) w .quo 181 .f64 (U a) (U b) r h
  go_enter Tryz.func154, Tryz.ntmps154
  go_wp2_with (first | (go_at_call 172; refine (word_toFloat_any _ _).mono ?_; rintro e w' ⟨rfl, rfl⟩) | (go_at_call 156; refine (word_toWord_any _ _).mono ?_; rintro e w' ⟨rfl, rfl⟩))
  go_ret
  exact ⟨rfl, 0, rfl⟩
set_option maxHeartbeats 400000 in
theorem word_FromInt_any (a : Int) (w : World) :
    Calls Tryz.prog 119 #[.int .i64 a] w fun e w' => e = .returned (.int .i64 (toW (floatOfInt .f64 a))) ∧ w' = w := by
 go_enter Tryz.func119, Tryz.ntmps119
 go_wp2_with (go_at_call 156; refine (word_toWord_any _ _).mono ?_; rintro e w' ⟨rfl, rfl⟩)
 go_ret
 exact ⟨rfl, rfl⟩
set_option maxHeartbeats 400000 in
theorem word_Add_any (a b : Int) (w : World) :
    Calls Tryz.prog 148 #[.int .i64 a, .int .i64 b] w fun e w' => e = .returned (.int .i64 (wrap64 (a + b))) ∧ w' = w := by
 go_enter Tryz.func148, Tryz.ntmps148
 go_wp2
 go_ret
 exact ⟨rfl, rfl⟩
set_option maxHeartbeats 400000 in
theorem word_Sub_any (a b : Int) (w : World) :
    Calls Tryz.prog 149 #[.int .i64 a, .int .i64 b] w fun e w' => e = .returned (.int .i64 (wrap64 (a - b))) ∧ w' = w := by
 go_enter Tryz.func149, Tryz.ntmps149
 go_wp2
 go_ret
 exact ⟨rfl, rfl⟩
set_option maxHeartbeats 400000 in
theorem word_Mul_any (a b : Int) (w : World) :
    Calls Tryz.prog 150 #[.int .i64 a, .int .i64 b] w fun e w' => e = .returned (.int .i64 (wrap64 (a * b))) ∧ w' = w := by
 go_enter Tryz.func150, Tryz.ntmps150
 go_wp2
 go_ret
 exact ⟨rfl, rfl⟩
end Go.Proofs.YtidihdiffiffmaaGreatDoor
namespace Go.Proofs.YtidihdiffiffmaaGreatDoor
open Go.RowKit
set_option maxRecDepth 8000
def less (a b : Int) : Int :=
 if 9218868437227405312 < rung (U a) then 2 else if 9218868437227405312 < rung (U b) then 2 else if key (U a) < key (U b) then 1 else 0
set_option maxHeartbeats 400000 in
theorem less_walk (a b : Int) (w : World) (t1 t2 t3 : Bool) (v : Int)
    (h1 : isN (U a) = t1) (h2 : isN (U b) = t2) (h3 : (FloatKind.f64.format.order (U a) (U b) == some .lt) = t3)
    (hv : v = if t1 = true then 2 else if t2 = true then 2 else if t3 = true then 1 else 0) :
    Calls Tryz.prog 155 #[.int .i64 a, .int .i64 b] w fun e w' => e = .returned (.int .i64 v) ∧ w' = w := by
 subst hv
 cases t1 <;> cases t2 <;> cases t3
 all_goals
  go_enter Tryz.func155, Tryz.ntmps155
  go_wp2_with (first | (go_at_call 172; refine (word_toFloat_any _ _).mono ?_; rintro e w' ⟨rfl, rfl⟩) | (go_at_call 173; refine (isNaN_any _ _).mono ?_; rintro e w' ⟨rfl, rfl⟩))
  go_ret
  exact ⟨rfl, rfl⟩
theorem less_eq (a b : Int) : less a b = if isN (U a) = true then 2 else if isN (U b) = true then 2 else if (FloatKind.f64.format.order (U a) (U b) == some .lt) = true then 1 else 0 := by
 unfold less
 rw [isN_iff, isN_iff]
 by_cases h1 : 9218868437227405312 < rung (U a)
 ·simp [h1]
 ·by_cases h2 : 9218868437227405312 < rung (U b)
  ·simp [h1, h2]
  ·rw [order_lt (by omega) (by omega)]
   simp [h1, h2]
theorem word_FLess_any (a b : Int) (w : World) :
    Calls Tryz.prog 155 #[.int .i64 a, .int .i64 b] w fun e w' => e = .returned (.int .i64 (less a b)) ∧ w' = w :=
 less_walk a b w _ _ _ _ rfl rfl rfl (less_eq a b)
end Go.Proofs.YtidihdiffiffmaaGreatDoor
namespace Go.Proofs.YtidihdiffiffmaaGreatDoor
open Go.RowKit
set_option maxRecDepth 8000
def E74 : Nat := 1074
theorem E74v : E74 = 1074 := rfl
def Q : Nat := 2 ^ E74
theorem Q_pos : 0 < Q := Nat.two_pow_pos E74
theorem Q_eq : Q = 2 ^ E74 := rfl
theorem cut_zero (s : Bool) (n d : Nat) : Ieee.Toward.zero.cut s n d = n / 2 ^ d := by
 simp only [Ieee.Toward.cut, Nat.shiftLeft_eq, Nat.one_mul]
 show n / 2 ^ min d (n.log2 + 2) + 0 = n / 2 ^ d
 rw [Nat.add_zero]
 by_cases h : d ≤ n.log2 + 2
 ·rw [Nat.min_eq_left h]
 ·rw [Nat.min_eq_right (by omega)]
  have hl : n < 2 ^ (n.log2 + 1) := Nat.lt_log2_self
  have h1 : 2 ^ (n.log2 + 1) ≤ 2 ^ (n.log2 + 2) := Nat.pow_le_pow_right (by omega) (by omega)
  have h2 : 2 ^ (n.log2 + 1) ≤ 2 ^ d := Nat.pow_le_pow_right (by omega) (by omega)
  rw [Nat.div_eq_of_lt (by omega), Nat.div_eq_of_lt (by omega)]
theorem div_Q (m u : Nat) : m * 2 ^ (u - 1074) / 2 ^ (1074 - u) = m * 2 ^ u / Q := by
 rw [Q_eq, ← E74v]
 generalize E74 = z
 by_cases h : z ≤ u
 ·rw [show z - u = 0 from by omega, Nat.pow_zero, Nat.div_one]
  have e : 2 ^ u = 2 ^ (u - z) * 2 ^ z := by rw [← Nat.pow_add]; congr 1; omega
  rw [e, ← Nat.mul_assoc, Nat.mul_div_cancel _ (Nat.two_pow_pos _)]
 ·rw [show u - z = 0 from by omega, Nat.pow_zero, Nat.mul_one]
  have e : 2 ^ z = 2 ^ (z - u) * 2 ^ u := by rw [← Nat.pow_add]; congr 1; omega
  rw [e, Nat.mul_div_mul_right _ _ (Nat.two_pow_pos _)]
def tr (n : Nat) : Int := sg (sgn n) (val (rung n) / Q)
theorem toInt_fin {n : Nat} (h : rung n < 9218868437227405312) : (FloatKind.f64.decode n).toInt .zero = some (tr n) := by
 unfold FloatKind.decode
 rw [read_fin h]
 have e : Ieee.Datum.toInt .zero (.number (sgn n) (mag (rung n)) (-1074 + (up (rung n) : Int))) =
     some (Ieee.signed (sgn n) (Ieee.Toward.zero.cut (sgn n) (mag (rung n) <<< (-1074 + (up (rung n) : Int)).toNat) (-(-1074 + (up (rung n) : Int))).toNat) 0) := rfl
 rw [e, signed_eq, cut_zero, Nat.shiftLeft_eq, show (-1074 + (up (rung n) : Int)).toNat = up (rung n) - 1074 from by omega,
  show (-(-1074 + (up (rung n) : Int))).toNat = 1074 - up (rung n) from by omega, div_Q, ← val_eq, Nat.pow_zero, Nat.mul_one]
 rfl
theorem val_K : val 4890909195324358656 = 9223372036854775808 * Q := by decide +kernel
theorem tr_bounds {n : Nat} (h : rung n ≤ 4890909195324358656) : val (rung n) / Q ≤ 9223372036854775808 ∧ (rung n < 4890909195324358656 → val (rung n) / Q < 9223372036854775808) := by
 constructor
 ·apply Nat.div_le_of_le_mul
  rw [Nat.mul_comm, ← val_K]
  rcases Nat.lt_or_eq_of_le h with h1 | h1
  ·exact Nat.le_of_lt (val_mono_lt h1)
  ·rw [h1]; exact Nat.le_refl _
 ·intro h1
  rw [Nat.div_lt_iff_lt_mul Q_pos, ← val_K]
  exact val_mono_lt h1
def okI (a : Int) : Prop := -4890909195324358656 ≤ key (U a) ∧ key (U a) < 4890909195324358656
theorem okI_parts {a : Int} (h : okI a) : rung (U a) ≤ 4890909195324358656 ∧ (sgn (U a) = false → rung (U a) < 4890909195324358656) := by
 obtain ⟨h1, h2⟩ := h
 unfold key sg at h1 h2
 cases hs : sgn (U a) <;> rw [hs] at h1 h2 <;> simp only [Bool.false_eq_true, if_false, if_true] at h1 h2
 ·exact ⟨by omega, fun _ => by omega⟩
 ·exact ⟨by omega, fun h => by cases h⟩
theorem tr_range {a : Int} (h : okI a) : -9223372036854775808 ≤ tr (U a) ∧ tr (U a) ≤ 9223372036854775807 := by
 obtain ⟨h1, h2⟩ := okI_parts h
 obtain ⟨h3, h4⟩ := tr_bounds h1
 unfold tr sg
 generalize val (rung (U a)) / Q = q at *
 cases hs : sgn (U a)
 ·have := h4 (h2 hs)
  simp only [Bool.false_eq_true, if_false]; omega
 ·simp only [if_true]; omega
theorem floatToInt_ok {a : Int} (h : okI a) : floatToIntVal .f64 (U a) .i64 = some (tr (U a)) := by
 have h1 := (okI_parts h).1
 have h2 := tr_range h
 unfold floatToIntVal
 rw [toInt_fin (by omega)]
 have e : IntKind.min .i64 = -9223372036854775808 ∧ IntKind.max .i64 = 9223372036854775807 := by decide +kernel
 simp only
 rw [if_pos (by rw [e.1, e.2]; exact h2)]
theorem toInt_lt {a : Int} (h : ¬ 9218868437227405312 < rung (U a)) : (FloatKind.f64.format.order (U a) 14114281232179134464 == some .lt) = decide (key (U a) < -4890909195324358656) := by
 rw [order_lt (by omega) (by decide)]
 have : key 14114281232179134464 = -4890909195324358656 := by decide +kernel
 rw [this]
theorem toInt_ge {a : Int} (h : ¬ 9218868437227405312 < rung (U a)) :
    (FloatKind.f64.format.order (U a) 4890909195324358656 == some .gt || FloatKind.f64.format.order (U a) 4890909195324358656 == some .eq) = decide (4890909195324358656 ≤ key (U a)) := by
 have e : key 4890909195324358656 = 4890909195324358656 := by decide +kernel
 rw [order_gt (by omega) (by decide), order_eq (by omega) (by decide), e]
 by_cases h1 : 4890909195324358656 < key (U a)
 ·rw [decide_eq_true h1, decide_eq_true (by omega : (4890909195324358656 : Int) ≤ key (U a)), Bool.true_or]
 ·rw [decide_eq_false h1, Bool.false_or, decide_eq_decide]; omega
set_option maxHeartbeats 1000000 in
theorem toInt_walk_no (a : Int) (w : World) (t1 t2 : Bool)
    (h1 : isN (U a) = t1) (h2 : (FloatKind.f64.format.order (U a) 14114281232179134464 == some .lt) = t2)
    (h3 : t1 = false → t2 = false → (FloatKind.f64.format.order (U a) 4890909195324358656 == some .gt || FloatKind.f64.format.order (U a) 4890909195324358656 == some .eq) = true) :
    Calls Tryz.prog 157 #[.int .i64 a] w fun e w' => e = .returned (.tuple #[.int .i64 0, .int .i64 1]) ∧ w' = w := by
 cases t1
 ·cases t2
  ·have h4 := h3 rfl rfl
   clear h3
   go_enter Tryz.func157, Tryz.ntmps157
   go_wp2_with (first | (go_at_call 172; refine (word_toFloat_any _ _).mono ?_; rintro e w' ⟨rfl, rfl⟩) | (go_at_call 173; refine (isNaN_any _ _).mono ?_; rintro e w' ⟨rfl, rfl⟩))
   go_ret2
   exact ⟨rfl, rfl⟩
  ·clear h3
   go_enter Tryz.func157, Tryz.ntmps157
   go_wp2_with (first | (go_at_call 172; refine (word_toFloat_any _ _).mono ?_; rintro e w' ⟨rfl, rfl⟩) | (go_at_call 173; refine (isNaN_any _ _).mono ?_; rintro e w' ⟨rfl, rfl⟩))
   go_ret2
   exact ⟨rfl, rfl⟩
 ·clear h2 h3
  go_enter Tryz.func157, Tryz.ntmps157
  go_wp2_with (first | (go_at_call 172; refine (word_toFloat_any _ _).mono ?_; rintro e w' ⟨rfl, rfl⟩) | (go_at_call 173; refine (isNaN_any _ _).mono ?_; rintro e w' ⟨rfl, rfl⟩))
  go_ret2
  exact ⟨rfl, rfl⟩
set_option maxHeartbeats 1000000 in
theorem toInt_walk_yes (a v : Int) (w : World) (h1 : isN (U a) = false) (h2 : (FloatKind.f64.format.order (U a) 14114281232179134464 == some .lt) = false)
    (h3 : (FloatKind.f64.format.order (U a) 4890909195324358656 == some .gt || FloatKind.f64.format.order (U a) 4890909195324358656 == some .eq) = false)
    (h4 : ∀ w, (convert 181 2 (.float .f64 (U a))).run Tryz.prog w = .ok (.int .i64 v) w) :
    Calls Tryz.prog 157 #[.int .i64 a] w fun e w' => e = .returned (.tuple #[.int .i64 v, .int .i64 0]) ∧ w' = w := by
 go_enter Tryz.func157, Tryz.ntmps157
 go_wp2_with (first | (go_at_call 172; refine (word_toFloat_any _ _).mono ?_; rintro e w' ⟨rfl, rfl⟩) | (go_at_call 173; refine (isNaN_any _ _).mono ?_; rintro e w' ⟨rfl, rfl⟩))
 go_ret2
 exact ⟨rfl, rfl⟩
theorem word_ToInt_no {a : Int} (h : ¬ okI a) (w : World) :
    Calls Tryz.prog 157 #[.int .i64 a] w fun e w' => e = .returned (.tuple #[.int .i64 0, .int .i64 1]) ∧ w' = w := by
 refine toInt_walk_no a w _ _ rfl rfl ?_
 intro h1 h2
 rw [isN_iff] at h1
 have h1' : ¬ 9218868437227405312 < rung (U a) := of_decide_eq_false h1
 rw [toInt_lt h1'] at h2
 rw [toInt_ge h1']
 have h2' := of_decide_eq_false h2
 apply decide_eq_true
 unfold okI at h
 omega
theorem word_ToInt_yes {a : Int} (h : okI a) (w : World) :
    Calls Tryz.prog 157 #[.int .i64 a] w fun e w' => e = .returned (.tuple #[.int .i64 (tr (U a)), .int .i64 0]) ∧ w' = w := by
 have h0 := (okI_parts h).1
 have h1 : ¬ 9218868437227405312 < rung (U a) := by omega
 obtain ⟨h2, h3⟩ := h
 refine toInt_walk_yes a _ w ?_ ?_ ?_ ?_
 ·rw [isN_iff]; exact decide_eq_false h1
 ·rw [toInt_lt h1]; exact decide_eq_false (by omega)
 ·rw [toInt_ge h1]; exact decide_eq_false (by omega)
 ·intro w'
  exact run_convert_float_int w' 181 2 .f64 .i64 (U a) _ (by rw [Tryz.underlying181]; rfl) Tryz.underlying2 (floatToInt_ok ⟨h2, h3⟩)
def okF (a : Int) : Bool := decide (-4890909195324358656 ≤ key (U a)) && decide (key (U a) < 4890909195324358656)
def toV (a : Int) : Int := if okF a = true then tr (U a) else 0
def toE (a : Int) : Int := if okF a = true then 0 else 1
theorem okF_iff (a : Int) : okF a = true ↔ okI a := by
 unfold okF okI
 rw [Bool.and_eq_true, decide_eq_true_iff, decide_eq_true_iff]
theorem word_ToInt_any (a : Int) (w : World) :
    Calls Tryz.prog 157 #[.int .i64 a] w fun e w' => e = .returned (.tuple #[.int .i64 (toV a), .int .i64 (toE a)]) ∧ w' = w := by
 unfold toV toE
 by_cases h : okF a = true
 ·rw [if_pos h, if_pos h]; exact word_ToInt_yes ((okF_iff a).mp h) w
 ·rw [if_neg h, if_neg h]; exact word_ToInt_no (fun k => h ((okF_iff a).mpr k)) w
end Go.Proofs.YtidihdiffiffmaaGreatDoor
namespace Go.Proofs.YtidihdiffiffmaaGreatDoor
open Go.RowKit
set_option maxRecDepth 8000
set_option linter.unusedSimpArgs false
set_option linter.unusedVariables false
structure Sg where
 is : Bool
 ws : List Int
 md : Int
 rg : Rg
structure Fr where
 s : Int
 f : Int
 r : Int
structure Cp where
 seg : Int
 off : Int
 ring : Int
 a : Int
 ps : List Ptr
 st : List Fr
 hl : Bool
def zeroG : Sg := ⟨false, [], 0, ⟨0, 0, 0, 0⟩⟩
def zeroC : Cp := ⟨0, 0, 0, 0, [⟨0, 0, 0⟩, ⟨0, 0, 0⟩, ⟨0, 0, 0⟩, ⟨0, 0, 0⟩], [], false⟩
def newC : Cp := ⟨0, 0, 4, 0, [⟨0, 0, 4⟩, ⟨1, 0, 4⟩, ⟨2, 0, 4⟩, ⟨3, 0, 4⟩], [], false⟩
def kn (m : List Sg) (k : Int) : Sg := if k < 0 then zeroG else m.getD k.toNat zeroG
def pAt (c : Cp) (k : Int) : Ptr := c.ps.getD k.toNat ⟨0, 0, 0⟩
def hasM (md b : Int) : Bool := bits .and .i64 md b != 0
def wAt (g : Sg) (o : Int) : Int := g.ws.getD o.toNat 0
abbrev inG (g : Sg) (o : Int) : Prop := 0 ≤ o ∧ o < (g.ws.length : Int)
def fetE (c : Cp) (m : List Sg) : Int :=
 if (kn m c.seg).is = false then 35 else if hasM (kn m c.seg).md 4 = false ∨ mayX (kn m c.seg).rg c.ring = false then 33
 else if ¬ inG (kn m c.seg) c.off then 35 else if decE (wAt (kn m c.seg) c.off) ≠ 0 then 36 else 0
def fetI (c : Cp) (m : List Sg) : Ins := decI (wAt (kn m c.seg) c.off)
def mOff (c : Cp) (i : Ins) : Int := (pAt c i.p).f + i.n
def mRing (c : Cp) (i : Ins) : Int := gmax c.ring (pAt c i.p).r
def mSeg (c : Cp) (m : List Sg) (i : Ins) : Sg := kn m (pAt c i.p).s
def rdE (c : Cp) (m : List Sg) (i : Ins) : Int :=
 if (mSeg c m i).is = false then 35 else if hasM (mSeg c m i).md 1 = false ∨ mayR (mSeg c m i).rg (mRing c i) = false then 31 else if ¬ inG (mSeg c m i) (mOff c i) then 35 else 0
def rdW (c : Cp) (m : List Sg) (i : Ins) : Int := wAt (mSeg c m i) (mOff c i)
def wrE (c : Cp) (m : List Sg) (i : Ins) : Int :=
 if (mSeg c m i).is = false then 35 else if hasM (mSeg c m i).md 2 = false ∨ mayW (mSeg c m i).rg (mRing c i) = false then 32 else if ¬ inG (mSeg c m i) (mOff c i) then 35 else 0
def raiseC (c : Cp) (r : Int) : Cp := { c with ps := c.ps.map fun p => ⟨p.s, p.f, gmax p.r r⟩ }
def clE (c : Cp) (m : List Sg) (i : Ins) : Int :=
 if (mSeg c m i).is = false then 35 else if hasM (mSeg c m i).md 4 = false then 33 else if callE (mSeg c m i).rg (mOff c i) (mRing c i) ≠ 0 then 34
 else if ¬ mOff c i < ((mSeg c m i).ws.length : Int) then 35 else if 8 ≤ c.st.length then 37 else 0
def clT (c : Cp) (m : List Sg) (i : Ins) : Cp :=
 raiseC { c with seg := (pAt c i.p).s, off := mOff c i, ring := callN (mSeg c m i).rg (mOff c i) (mRing c i), st := c.st ++ [⟨c.seg, c.off + 1, c.ring⟩] } c.ring
def lastF (c : Cp) : Fr := c.st.getD (c.st.length - 1) ⟨0, 0, 0⟩
def rtE (c : Cp) : Int := if c.st.length = 0 then 37 else if (lastF c).r < c.ring then 34 else 0
def rtT (c : Cp) : Cp := raiseC { c with seg := (lastF c).s, off := (lastF c).f, ring := (lastF c).r, st := c.st.take (c.st.length - 1) } (lastF c).r
def arC (o a b : Int) : Int :=
 if o = 1 then b else if o = 4 then wrap64 (a + b) else if o = 5 then wrap64 (a - b) else if o = 6 then wrap64 (a * b)
 else if o = 7 then fop .add a b else if o = 8 then fop .sub a b else if o = 9 then fop .mul a b else if o = 10 then fop .quo a b else less a b
structure Ot where
 e : Int
 t : Cp
 wr : Option (Int × Int × Int)
 v : Int
 told : Bool
def flt (e : Int) : Ot := ⟨e, zeroC, none, 0, false⟩
def okC (t : Cp) : Ot := ⟨0, t, none, 0, false⟩
def opC (c : Cp) (m : List Sg) (i : Ins) : Ot :=
 let t : Cp := { c with off := c.off + 1 }
 if i.o = 0 then okC { t with hl := true }
 else if i.o = 1 ∨ 4 ≤ i.o ∧ i.o ≤ 11 then (if rdE c m i ≠ 0 then flt (rdE c m i) else okC { t with a := arC i.o c.a (rdW c m i) })
 else if i.o = 2 then (if wrE c m i ≠ 0 then flt (wrE c m i) else ⟨0, t, some ((pAt c i.p).s, mOff c i, c.a), 0, false⟩)
 else if i.o = 3 then okC { t with a := i.n }
 else if i.o = 12 then okC { t with a := toW (floatOfInt .f64 c.a) }
 else if i.o = 13 then (if toE c.a ≠ 0 then flt 36 else okC { t with a := toV c.a })
 else if i.o = 14 ∨ i.o = 15 ∧ c.a = 0 ∨ i.o = 16 ∧ c.a < 0 then okC { t with off := i.n }
 else if i.o = 17 then okC { t with ps := c.ps.set i.p.toNat ⟨(wPtr c.a).s, (wPtr c.a).f, gmax (wPtr c.a).r c.ring⟩ }
 else if i.o = 18 then (if rdE c m i ≠ 0 then flt (rdE c m i) else okC { t with ps := c.ps.set i.p.toNat (follow (wPtr (rdW c m i)) (mSeg c m i).rg (mRing c i)) })
 else if i.o = 19 then okC { t with a := ptrW (pAt c i.p) }
 else if i.o = 20 then (if clE c m i ≠ 0 then flt (clE c m i) else okC (clT c m i))
 else if i.o = 21 then (if rtE c ≠ 0 then flt (rtE c) else okC (rtT c))
 else if i.o = 22 then ⟨0, t, none, c.a, true⟩
 else okC t
def stepC (c : Cp) (m : List Sg) : Ot :=
 if c.hl = true then okC c else if fetE c m ≠ 0 then flt (fetE c m) else opC c m (fetI c m)
def putM (m : List Sg) : Option (Int × Int × Int) → List Sg
 | none => m
 | some (k, o, v) => m.set k.toNat { kn m k with ws := (kn m k).ws.set o.toNat v }
structure Cp.Ok (c : Cp) : Prop where
 ps : c.ps.length = 4
 pp : ∀ p ∈ c.ps, -1000000000000 ≤ p.f ∧ p.f ≤ 1000000000000 ∧ 0 ≤ p.r ∧ p.r ≤ 7
 ring : 0 ≤ c.ring ∧ c.ring ≤ 7
 a : -9223372036854775808 ≤ c.a ∧ c.a ≤ 9223372036854775807
 st : c.st.length ≤ 8
 sr : ∀ f ∈ c.st, 0 ≤ f.r ∧ f.r ≤ 7
structure Sg.Ok (g : Sg) : Prop where
 rg : g.is = true → OkR g.rg
 ws : ∀ x ∈ g.ws, -9223372036854775808 ≤ x ∧ x ≤ 9223372036854775807
 len : g.ws.length ≤ 1000
end Go.Proofs.YtidihdiffiffmaaGreatDoor
namespace Go.Proofs.YtidihdiffiffmaaGreatDoor
open Go.RowKit
set_option maxRecDepth 8000
set_option linter.unusedSimpArgs false
set_option linter.unusedVariables false
def fitI (x : Int) : Prop := -9223372036854775808 ≤ x ∧ x ≤ 9223372036854775807
theorem fit_wrap (x : Int) : fitI (wrap64 x) := by unfold fitI wrap64; omega
theorem fit_toW (n : Nat) : fitI (toW n) := by
 unfold toW
 split
 ·unfold fitI NAN; omega
 ·exact fit_wrap _
theorem fit_fop (o : BinOp) (a b : Int) : fitI (fop o a b) := by
 unfold fop
 split
 ·exact fit_toW _
 ·unfold fitI NAN; omega
theorem fit_less (a b : Int) : fitI (less a b) := by
 rw [less_eq]
 unfold fitI
 repeat' split
 all_goals omega
theorem fit_toV (a : Int) : fitI (toV a) := by
 unfold toV
 split
 ·rename_i h
  exact tr_range ((okF_iff a).mp h)
 ·unfold fitI; omega
theorem fit_arC {a b : Int} (o : Int) (ha : fitI a) (hb : fitI b) : fitI (arC o a b) := by
 unfold arC
 repeat' split
 all_goals first | exact hb | exact fit_wrap _ | exact fit_fop _ _ _ | exact fit_less _ _
theorem dec_ok {x : Int} (hx : fitI x) (h : decE x = 0) : insE (decI x) = 0 := (enc_dec hx h).1
theorem wPtr_ok (x : Int) : 0 ≤ (wPtr x).s ∧ (wPtr x).s < 65536 ∧ 0 ≤ (wPtr x).f ∧ (wPtr x).f < 4294967296 ∧ 0 ≤ (wPtr x).r ∧ (wPtr x).r ≤ 7 := by
 unfold wPtr wMid wLow u64
 simp only
 omega
theorem gmax_le {a b c : Int} (ha : a ≤ c) (hb : b ≤ c) : gmax a b ≤ c := by unfold gmax; split <;> omega
theorem gmax_l (a b : Int) : a ≤ gmax a b := by unfold gmax; split <;> omega
theorem call_ok {x : Rg} {off r : Int} (hx : OkR x) (h : callE x off r = 0) : 0 ≤ callN x off r ∧ callN x off r ≤ 7 ∧ 0 ≤ off ∧ off < 16 := by
 obtain ⟨x0, x1, x2, x3, x4, x5⟩ := hx
 unfold callE at h
 unfold callN
 repeat' split at h
 all_goals first
  | (exfalso; omega)
  | (rename_i h1; repeat' split; all_goals omega)
  | (repeat' split; all_goals omega)
section
variable {c : Cp} {m : List Sg} {i : Ins}
theorem zeroG_ok : zeroG.Ok := ⟨fun h => (by cases h), fun x h => (by simp [zeroG] at h), by simp [zeroG]⟩
theorem kn_ok (hm : ∀ g ∈ m, g.Ok) (k : Int) : (kn m k).Ok := by
 unfold kn
 split
 ·exact zeroG_ok
 ·rw [List.getD_eq_getElem?_getD]
  cases h : m[k.toNat]? with
  | none => exact zeroG_ok
  | some g => exact hm g (List.mem_of_getElem? h)
theorem wAt_fit {g : Sg} (hg : g.Ok) (o : Int) : fitI (wAt g o) := by
 unfold wAt
 rw [List.getD_eq_getElem?_getD]
 cases h : g.ws[o.toNat]? with
 | none => unfold fitI; simp
 | some x => exact hg.ws x (List.mem_of_getElem? h)
theorem pAt_ok (hc : c.Ok) (k : Int) : -1000000000000 ≤ (pAt c k).f ∧ (pAt c k).f ≤ 1000000000000 ∧ 0 ≤ (pAt c k).r ∧ (pAt c k).r ≤ 7 := by
 unfold pAt
 rw [List.getD_eq_getElem?_getD]
 cases h : c.ps[k.toNat]? with
 | none => simp
 | some p => exact hc.pp p (List.mem_of_getElem? h)
theorem Cp.Ok.set (hc : c.Ok) {k : Nat} {q : Ptr} (hq : -1000000000000 ≤ q.f ∧ q.f ≤ 1000000000000 ∧ 0 ≤ q.r ∧ q.r ≤ 7) : ∀ p ∈ c.ps.set k q, -1000000000000 ≤ p.f ∧ p.f ≤ 1000000000000 ∧ 0 ≤ p.r ∧ p.r ≤ 7 := fun p hp => by
 rcases List.mem_or_eq_of_mem_set hp with h | h
 ·exact hc.pp p h
 ·rw [h]; exact hq
theorem Cp.Ok.raise (hc : c.Ok) {r : Int} (h0 : 0 ≤ r) (h1 : r ≤ 7) : (raiseC c r).Ok := by
 refine ⟨by simpa [raiseC] using hc.ps, fun p hp => ?_, hc.ring, hc.a, hc.st, hc.sr⟩
 simp only [raiseC, List.mem_map] at hp
 obtain ⟨q, hq, rfl⟩ := hp
 have := hc.pp q hq
 have g1 := gmax_l q.r r
 have g2 := gmax_le this.2.2.2 h1
 exact ⟨this.1, this.2.1, by show 0 ≤ gmax q.r r; omega, g2⟩
theorem mRing_ok (hc : c.Ok) : 0 ≤ mRing c i ∧ mRing c i ≤ 7 := by
 have := pAt_ok hc i.p
 have g1 := gmax_l c.ring (pAt c i.p).r
 have hr := hc.ring
 exact ⟨by unfold mRing; omega, gmax_le hr.2 this.2.2.2⟩
theorem lastF_ok (hc : c.Ok) : 0 ≤ (lastF c).r ∧ (lastF c).r ≤ 7 := by
 unfold lastF
 rw [List.getD_eq_getElem?_getD]
 cases h : c.st[c.st.length - 1]? with
 | none => simp
 | some p => exact hc.sr p (List.mem_of_getElem? h)
theorem cl_ok (hc : c.Ok) (hm : ∀ g ∈ m, g.Ok) (h : clE c m i = 0) : (clT c m i).Ok := by
 have hg : (mSeg c m i).Ok := kn_ok hm (pAt c i.p).s
 unfold clE at h
 have hr := hc.ring
 by_cases h1 : (mSeg c m i).is = false
 ·rw [if_pos h1] at h; cases h
 rw [if_neg h1] at h
 by_cases h2 : hasM (mSeg c m i).md 4 = false
 ·rw [if_pos h2] at h; cases h
 rw [if_neg h2] at h
 by_cases h3 : callE (mSeg c m i).rg (mOff c i) (mRing c i) ≠ 0
 ·rw [if_pos h3] at h; cases h
 rw [if_neg h3] at h
 by_cases h4 : ¬ mOff c i < ((mSeg c m i).ws.length : Int)
 ·rw [if_pos h4] at h; cases h
 rw [if_neg h4] at h
 by_cases h5 : 8 ≤ c.st.length
 ·rw [if_pos h5] at h; cases h
 have hx := hg.rg (by simpa using h1)
 have hn := call_ok hx (by simpa using h3)
 unfold clT
 apply Cp.Ok.raise _ hr.1 hr.2
 refine ⟨hc.ps, hc.pp, ⟨hn.1, hn.2.1⟩, hc.a, ?_, fun f hf => ?_⟩
 ·simp; omega
 ·rcases List.mem_append.1 hf with hf | hf
  ·exact hc.sr f hf
  ·have := List.mem_singleton.1 hf
   subst this
   exact hr
theorem rt_ok (hc : c.Ok) : (rtT c).Ok := by
 have hl := lastF_ok hc
 unfold rtT
 apply Cp.Ok.raise _ hl.1 hl.2
 refine ⟨hc.ps, hc.pp, hl, hc.a, ?_, fun f hf => hc.sr f (List.mem_of_mem_take hf)⟩
 have := hc.st
 simp
 omega
theorem ptrW_fitI (p : Ptr) : fitI (ptrW p) := by
 unfold fitI ptrW
 omega
theorem op_ok (hc : c.Ok) (hm : ∀ g ∈ m, g.Ok) (hi : insE i = 0) (h : (opC c m i).e = 0) : (opC c m i).t.Ok := by
 obtain ⟨⟨a0, a1⟩, a2, a3, a4, a5⟩ := insE_zero.1 hi
 have hg : (mSeg c m i).Ok := kn_ok hm (pAt c i.p).s
 have hw : fitI (rdW c m i) := wAt_fit hg _
 have hp := pAt_ok hc i.p
 have hr := hc.ring
 have q1 := wPtr_ok c.a
 have q2 := wPtr_ok (rdW c m i)
 have q3 := mRing_ok (i := i) hc
 have hn : fitI i.n := by unfold fitI; omega
 unfold opC at h ⊢
 by_cases c0 : i.o = 0
 ·rw [if_pos c0]; exact ⟨hc.ps, hc.pp, hc.ring, hc.a, hc.st, hc.sr⟩
 rw [if_neg c0] at h ⊢
 by_cases c1 : i.o = 1 ∨ 4 ≤ i.o ∧ i.o ≤ 11
 ·rw [if_pos c1] at h ⊢
  by_cases e : rdE c m i ≠ 0
  ·rw [if_pos e] at h; exact absurd h e
  ·rw [if_neg e]; exact ⟨hc.ps, hc.pp, hc.ring, fit_arC _ hc.a hw, hc.st, hc.sr⟩
 rw [if_neg c1] at h ⊢
 by_cases c2 : i.o = 2
 ·rw [if_pos c2] at h ⊢
  by_cases e : wrE c m i ≠ 0
  ·rw [if_pos e] at h; exact absurd h e
  ·rw [if_neg e]; exact ⟨hc.ps, hc.pp, hc.ring, hc.a, hc.st, hc.sr⟩
 rw [if_neg c2] at h ⊢
 by_cases c3 : i.o = 3
 ·rw [if_pos c3]; exact ⟨hc.ps, hc.pp, hc.ring, hn, hc.st, hc.sr⟩
 rw [if_neg c3] at h ⊢
 by_cases c4 : i.o = 12
 ·rw [if_pos c4]; exact ⟨hc.ps, hc.pp, hc.ring, fit_toW _, hc.st, hc.sr⟩
 rw [if_neg c4] at h ⊢
 by_cases c5 : i.o = 13
 ·rw [if_pos c5] at h ⊢
  by_cases e : toE c.a ≠ 0
  ·rw [if_pos e] at h; cases h
  ·rw [if_neg e]; exact ⟨hc.ps, hc.pp, hc.ring, fit_toV _, hc.st, hc.sr⟩
 rw [if_neg c5] at h ⊢
 by_cases c6 : i.o = 14 ∨ i.o = 15 ∧ c.a = 0 ∨ i.o = 16 ∧ c.a < 0
 ·rw [if_pos c6]; exact ⟨hc.ps, hc.pp, hc.ring, hc.a, hc.st, hc.sr⟩
 rw [if_neg c6] at h ⊢
 by_cases c7 : i.o = 17
 ·rw [if_pos c7]
  have g1 := gmax_l (wPtr c.a).r c.ring
  have g2 := gmax_le q1.2.2.2.2.2 hr.2
  exact ⟨by show (c.ps.set _ _).length = 4; rw [List.length_set]; exact hc.ps, hc.set ⟨by show -1000000000000 ≤ (wPtr c.a).f; omega, by show (wPtr c.a).f ≤ 1000000000000; omega, by show 0 ≤ gmax _ _; omega, g2⟩, hc.ring, hc.a, hc.st, hc.sr⟩
 rw [if_neg c7] at h ⊢
 by_cases c8 : i.o = 18
 ·rw [if_pos c8] at h ⊢
  by_cases e : rdE c m i ≠ 0
  ·rw [if_pos e] at h; exact absurd h e
  ·rw [if_neg e]
   have hx : (mSeg c m i).is = true := by
    unfold rdE at e
    by_cases h1 : (mSeg c m i).is = false
    ·rw [if_pos h1] at e; exact absurd (by decide) e
    ·simpa using h1
   obtain ⟨x0, x1, x2, x3, x4, x5⟩ := hg.rg hx
   have g1 := gmax_l (gmax (wPtr (rdW c m i)).r (mSeg c m i).rg.a) (mRing c i)
   have g2 := gmax_l (wPtr (rdW c m i)).r (mSeg c m i).rg.a
   have g3 := gmax_le (gmax_le q2.2.2.2.2.2 (show (mSeg c m i).rg.a ≤ 7 by omega)) q3.2
   exact ⟨by show (c.ps.set _ _).length = 4; rw [List.length_set]; exact hc.ps, hc.set ⟨by show -1000000000000 ≤ (wPtr _).f; omega, by show (wPtr _).f ≤ 1000000000000; omega, by show 0 ≤ gmax _ _; omega, g3⟩, hc.ring, hc.a, hc.st, hc.sr⟩
 rw [if_neg c8] at h ⊢
 by_cases c9 : i.o = 19
 ·rw [if_pos c9]; exact ⟨hc.ps, hc.pp, hc.ring, ptrW_fitI _, hc.st, hc.sr⟩
 rw [if_neg c9] at h ⊢
 by_cases c10 : i.o = 20
 ·rw [if_pos c10] at h ⊢
  by_cases e : clE c m i ≠ 0
  ·rw [if_pos e] at h; exact absurd h e
  ·rw [if_neg e]; exact cl_ok hc hm (by simpa using e)
 rw [if_neg c10] at h ⊢
 by_cases c11 : i.o = 21
 ·rw [if_pos c11] at h ⊢
  by_cases e : rtE c ≠ 0
  ·rw [if_pos e] at h; exact absurd h e
  ·rw [if_neg e]; exact rt_ok hc
 rw [if_neg c11] at h ⊢
 by_cases c12 : i.o = 22
 ·rw [if_pos c12]; exact ⟨hc.ps, hc.pp, hc.ring, hc.a, hc.st, hc.sr⟩
 ·rw [if_neg c12]; exact ⟨hc.ps, hc.pp, hc.ring, hc.a, hc.st, hc.sr⟩
theorem fet_ok (hm : ∀ g ∈ m, g.Ok) (h : fetE c m = 0) : insE (fetI c m) = 0 := by
 unfold fetE at h
 split at h
 ·cases h
 ·split at h
  ·cases h
  ·split at h
   ·cases h
   ·split at h
    ·cases h
    ·rename_i h4
     exact dec_ok (wAt_fit (kn_ok hm _) _) (by simpa using h4)
theorem step_ok (hc : c.Ok) (hm : ∀ g ∈ m, g.Ok) (h : (stepC c m).e = 0) : (stepC c m).t.Ok := by
 unfold stepC at h ⊢
 by_cases c0 : c.hl = true
 ·rw [if_pos c0]; exact hc
 rw [if_neg c0] at h ⊢
 by_cases e : fetE c m ≠ 0
 ·rw [if_pos e] at h; exact absurd h e
 ·rw [if_neg e] at h ⊢
  exact op_ok hc hm (fet_ok hm (by simpa using e)) h
end
end Go.Proofs.YtidihdiffiffmaaGreatDoor
namespace Go.Proofs.YtidihdiffiffmaaGreatDoor
open Go.RowKit
set_option maxRecDepth 8000
set_option linter.unusedSimpArgs false
set_option linter.unusedVariables false
def CellsAt (w : World) (x : Addr) (cs : List Value) : Prop := ∀ j v, cs[j]? = some v → w.cell? (x.add j) = some v
theorem run_loadVar_at {P : Program} (w : World) (x : Addr) (ty : TypeId) (cs : List Value) (d : TypeDesc) (hc : CellsAt w x cs)
    (hu : P.underlying ty = some d) (hd : d.isRow = true) (hi : (P.info? ty).map (·.size) = some cs.length) :
    (loadVar ty x).run P w = .ok (.agg cs.toArray) w := by
 have hl : (loadCells x cs.length).run P w = .ok cs.toArray w := run_loadCells_list (P := P) w x cs hc
 cases hq : P.info? ty with
 | none => simp [hq] at hi
 | some i =>
  have hs : i.size = cs.length := by simpa [hq] using hi
  have hagg : (isAgg ty).run P w = .ok true w := by
   unfold isAgg
   rw [Sem.run_bind, run_underlying hu w]
   cases d <;> simp_all
  simp [loadVar, Sem.run_bind, hagg, sizeOf, typeInfo, hq, hs, hl]
section
variable {ops : Array Oper} {rest : List Oper} {o : Oper} {a : Act} {w : World} {Q : Exit → Act → World → Prop} {T : TypeId} {d : TypeDesc} {S : World → Prop}
theorem wp_load_at {K : Act → World → Prop} (x : Operand) (ho : o.op = .load T x) (y : Addr) (hx : a.eval x = .pointer (some y)) (cs : List Value) (hc : CellsAt w y cs)
    (hu : Tryz.prog.underlying T = some d) (hd : d.isRow = true) (hi : (Tryz.prog.info? T).map (·.size) = some cs.length) (h : K (a.put o.dst (.agg cs.toArray)) w) : o.wp Tryz.prog a w K Q := by
 unfold Oper.wp execOp
 simp only [ho, hx, Instr.loadAt, Instr.sureAddr, Sem.run_bind, Sem.run_pure, Result.andThen_ok, run_loadVar_at w y T cs d hc hu hd hi]
 exact h
theorem wpList_load_at (hg : o.guard = none) (x : Operand) (ho : o.op = .load T x) (y : Addr) (hx : a.eval x = .pointer (some y)) (cs : List Value) (hc : CellsAt w y cs)
    (hu : Tryz.prog.underlying T = some d) (hd : d.isRow = true) (hi : (Tryz.prog.info? T).map (·.size) = some cs.length)
    (h : wpList Tryz.prog ops Q rest (a.put o.dst (.agg cs.toArray)) w) : wpList Tryz.prog ops Q (o :: rest) a w :=
 wpList_plain hg fun _ hK => wp_load_at x ho y hx cs hc hu hd hi (hK _ _ h)
theorem wpList_load_atg (hw : Region.wanted o (yielded ops a.tmps) = true) (x : Operand) (ho : o.op = .load T x) (y : Addr) (hx : a.eval x = .pointer (some y)) (cs : List Value) (hc : CellsAt w y cs)
    (hu : Tryz.prog.underlying T = some d) (hd : d.isRow = true) (hi : (Tryz.prog.info? T).map (·.size) = some cs.length)
    (h : wpList Tryz.prog ops Q rest (a.put o.dst (.agg cs.toArray)) w) : wpList Tryz.prog ops Q (o :: rest) a w := wpList_step fun K hK => by
 rw [if_pos hw]
 exact wp_load_at x ho y hx cs hc hu hd hi (hK _ _ h)
theorem yields_at (hw : Region.wanted o (yielded ops a.tmps) = true) (x : Operand) (ho : o.op = .load T x) (y : Addr) (hx : a.eval x = .pointer (some y)) (cs : List Value) (hS : ∀ w, S w → CellsAt w y cs)
    (hu : Tryz.prog.underlying T = some d) (hd : d.isRow = true) (hi : (Tryz.prog.info? T).map (·.size) = some cs.length) : YieldsIf Tryz.prog ops S o (.agg cs.toArray) a :=
 .inl ⟨hw, fun w hw' => by
  unfold execOp
  simp only [ho, hx, Instr.loadAt, Instr.sureAddr, Sem.run_bind, Sem.run_pure, Result.andThen_ok, run_loadVar_at w y T cs d (hS w hw') hu hd hi]⟩
end
theorem CellsAt.below {w w' : World} {x : Addr} {cs : List Value} (h : CellsAt w x cs) (b : Below w.heap.size w w') : CellsAt w' x cs := fun j v hv => (b.cell (World.block_lt_of_cell? _ _ (h j v hv))).trans (h j v hv)
theorem RowAt.at {α : Type} {sz : Nat} {f : α → List Value} {W : World} {y : Addr} {l : List α} (hf : ∀ x, (f x).length = sz) (h : RowAt sz f W (some y) l) {j : Nat} {x : α} (hx : l[j]? = some x) : CellsAt W (y.add (j * sz)) (f x) := fun i v hv => by
 obtain ⟨y', hy', hc⟩ := h j x hx
 obtain rfl := Option.some.inj hy'
 have hi := (List.getElem?_eq_some_iff.1 hv).1
 rw [hf] at hi
 rw [Addr.add_add, hc i hi, hv]
end Go.Proofs.YtidihdiffiffmaaGreatDoor
namespace Go.Proofs.YtidihdiffiffmaaGreatDoor
open Go.RowKit
set_option maxRecDepth 8000
set_option linter.unusedSimpArgs false
set_option linter.unusedVariables false
def setM : List Value → Nat → List Value → List Value
 | cs, _, [] => cs
 | cs, k, v :: r => setM (cs.set k v) (k + 1) r
theorem setM_len : ∀ (vs : List Value) (cs : List Value) (k : Nat), (setM cs k vs).length = cs.length
 | [], _, _ => rfl
 | v :: r, cs, k => by rw [setM, setM_len r, List.length_set]
theorem Blk.putM : ∀ (vs : List Value) {W : World} {b : Nat} {cs : List Value} (k : Nat), Blk W b cs → k + vs.length ≤ cs.length → Blk (W.setCells b k vs) b (setM cs k vs)
 | [], _, _, _, _, h, _ => h
 | v :: r, W, b, cs, k, h, hl => by
  simp at hl
  exact Blk.putM r (k + 1) (h.set k v (by omega)) (by simp; omega)
theorem Blk.thereM {W : World} {b : Nat} {cs : List Value} (h : Blk W b cs) (k m : Nat) (hl : k + m ≤ cs.length) : W.there b k m := fun j hj => by
 have := h (k + j) cs[k + j] (List.getElem?_eq_getElem (by omega))
 exact ⟨by rw [this.1]; rfl, this.2⟩
theorem put_mid {W : World} {b : Nat} {cs : List Value} (h : BlkL b cs W) (k : Nat) (vs : List Value) (hl : k + vs.length ≤ cs.length) (hp : 0 < cs.length) {Z : World} (hb : Below Z.heap.size Z W) (hz : Z.heap.size ≤ b) :
    ∃ W', W.setCells b k vs = W' ∧ W.there b k vs.length ∧ BlkL b (setM cs k vs) W' ∧ Below Z.heap.size Z W' := by
 have h1 := Blk.putM vs k h.1 hl
 refine ⟨_, rfl, h.1.thereM k vs.length hl, ⟨h1, ?_⟩, Below.cells hz vs k hb⟩
 have hl2 : 0 < (setM cs k vs).length := by rw [setM_len]; exact hp
 exact h1.lt (List.getElem?_eq_getElem hl2)
theorem OwnR.mid {α : Type} {e : TypeId} {sz : Nat} {f : α → List Value} {w : World} {base g : Nat} {v : Value} {l : List α} (h : OwnR e sz f w base v l) (hg : v.ownBlock ≠ some g) (o : Nat) (vs : List Value) : OwnR e sz f (w.setCells g o vs) base v l :=
 h.keep fun k hk => heap_setCells_other (fun q => hg (by rw [hk, q])) vs o w
section
variable {ops : Array Oper} {rest : List Oper} {o : Oper} {a : Act} {w W : World} {Q : Exit → Act → World → Prop} {T : TypeId}
theorem wpList_store_part (hg : o.guard = none) (x y : Operand) (ho : o.op = .store T x y) (b k : Nat) (hx : a.eval x = .pointer (some ⟨b, k, none⟩)) (cs : List Value) (hy : a.eval y = .agg cs.toArray)
    (ht : w.there b k cs.length) (hi : (Tryz.prog.info? T).map (·.size) = some cs.length) (h1 : ∀ v ∈ cs, v.oneCell' = true) (hW : w.setCells b k cs = W)
    (h : wpList Tryz.prog ops Q rest (a.put o.dst undef) W) : wpList Tryz.prog ops Q (o :: rest) a w :=
 wpList_store_mid hg T x y ho b k cs.toArray hx hy ht hi (all_oneCell_toArray h1) (hW ▸ h)
theorem step_store_part {K : Act → World → Prop} {E : Prop} (hg : o.guard = none) (x y : Operand) (ho : o.op = .store T x y) (b k : Nat) (hx : a.eval x = .pointer (some ⟨b, k, none⟩)) (cs : List Value) (hy : a.eval y = .agg cs.toArray)
    (ht : w.there b k cs.length) (hi : (Tryz.prog.info? T).map (·.size) = some cs.length) (h1 : ∀ v ∈ cs, v.oneCell' = true) (hW : w.setCells b k cs = W) (hK : K (a.put o.dst undef) W) :
    if Region.wanted o (yielded ops a.tmps) = true then Oper.wp Tryz.prog o a w K Q else E := by
 have hw : Region.wanted o (yielded ops a.tmps) = true := by simp [Region.wanted, hg]
 rw [if_pos hw]
 exact wp_store_mid T x y ho b k cs.toArray hx hy ht hi (all_oneCell_toArray h1) (hW ▸ hK)
end
end Go.Proofs.YtidihdiffiffmaaGreatDoor
namespace Go.Proofs.YtidihdiffiffmaaGreatDoor
open Go.RowKit
set_option maxRecDepth 8000
set_option linter.unusedSimpArgs false
set_option linter.unusedVariables false
def stCs (c : Cp) (v : Value) : List Value := [.int .i64 c.seg, .int .i64 c.off, .int .i64 c.ring, .int .i64 c.a] ++ (c.ps.flatMap ptr3 ++ [v, .bool c.hl])
theorem ptr3_len (p : Ptr) : (ptr3 p).length = 3 := rfl
theorem st_len {c : Cp} {v : Value} (h4 : c.ps.length = 4) : (stCs c v).length = 18 := by
 unfold stCs
 rw [List.length_append, List.length_append, flat_length ptr3_len, h4]
 rfl
theorem st_ptr {c : Cp} {v : Value} (h4 : c.ps.length = 4) {k j : Nat} (hk : k < 4) (hj : j < 3) : (stCs c v)[4 + k * 3 + j]? = (ptr3 (c.ps.getD k ⟨0, 0, 0⟩))[j]? := by
 unfold stCs
 rw [List.getElem?_append_right (by show 4 ≤ 4 + k * 3 + j; omega), show 4 + k * 3 + j - [Value.int .i64 c.seg, .int .i64 c.off, .int .i64 c.ring, .int .i64 c.a].length = k * 3 + j by show 4 + k * 3 + j - 4 = k * 3 + j; omega]
 rw [List.getElem?_append_left (by rw [flat_length ptr3_len, h4]; omega)]
 have hx : c.ps[k]? = some (c.ps.getD k ⟨0, 0, 0⟩) := by rw [List.getD_eq_getElem?_getD, List.getElem?_eq_getElem (by omega)]; rfl
 exact flat_at ptr3_len c.ps k j _ hx hj
theorem st_stk {c : Cp} {v : Value} (h4 : c.ps.length = 4) : (stCs c v)[16]? = some v := by
 unfold stCs
 rw [List.getElem?_append_right (by show 4 ≤ 16; omega), List.getElem?_append_right (by rw [flat_length ptr3_len, h4]; show 4 * 3 ≤ 16 - 4; omega), flat_length ptr3_len, h4]
 rfl
theorem st_hl {c : Cp} {v : Value} (h4 : c.ps.length = 4) : (stCs c v)[17]? = some (.bool c.hl) := by
 unfold stCs
 rw [List.getElem?_append_right (by show 4 ≤ 17; omega), List.getElem?_append_right (by rw [flat_length ptr3_len, h4]; show 4 * 3 ≤ 17 - 4; omega), flat_length ptr3_len, h4]
 rfl
structure StAt (b : Nat) (c : Cp) (v : Value) (W : World) : Prop where
 ps : c.ps.length = 4
 blk : BlkL b (stCs c v) W
theorem StAt.seg {b : Nat} {c : Cp} {v : Value} {W : World} (h : StAt b c v W) : W.cell? ⟨b, 0, none⟩ = some (.int .i64 c.seg) := (h.blk.1 0 _ rfl).1
theorem StAt.off {b : Nat} {c : Cp} {v : Value} {W : World} (h : StAt b c v W) : W.cell? ⟨b, 1, none⟩ = some (.int .i64 c.off) := (h.blk.1 1 _ rfl).1
theorem StAt.ring {b : Nat} {c : Cp} {v : Value} {W : World} (h : StAt b c v W) : W.cell? ⟨b, 2, none⟩ = some (.int .i64 c.ring) := (h.blk.1 2 _ rfl).1
theorem StAt.a {b : Nat} {c : Cp} {v : Value} {W : World} (h : StAt b c v W) : W.cell? ⟨b, 3, none⟩ = some (.int .i64 c.a) := (h.blk.1 3 _ rfl).1
theorem StAt.stk {b : Nat} {c : Cp} {v : Value} {W : World} (h : StAt b c v W) : W.cell? ⟨b, 16, none⟩ = some v := (h.blk.1 16 _ (st_stk h.ps)).1
theorem StAt.hl {b : Nat} {c : Cp} {v : Value} {W : World} (h : StAt b c v W) : W.cell? ⟨b, 17, none⟩ = some (.bool c.hl) := (h.blk.1 17 _ (st_hl h.ps)).1
theorem StAt.ptr {b : Nat} {c : Cp} {v : Value} {W : World} (h : StAt b c v W) {k : Nat} (hk : k < 4) : W.rangeAt b (4 + k * 3) (ptr3 (c.ps.getD k ⟨0, 0, 0⟩)) := fun j u hu => by
 have hj : j < 3 := by have := (List.getElem?_eq_some_iff.1 hu).1; exact this
 exact (h.blk.1 _ u ((st_ptr h.ps hk hj).trans hu)).1
theorem StAt.keep {b : Nat} {c : Cp} {v : Value} {W : World} (h : StAt b c v W) {W' : World} (hb : Below W.heap.size W W') : StAt b c v W' := ⟨h.ps, stab_blk _ _ _ _ h.blk hb⟩
structure PG where
 g : Sg
 wa : Option Addr
 wc : Nat
def wcl (x : Int) : List Value := [.int .i64 x]
def sgCs (g : Sg) (v : Value) : List Value := [.bool g.is, v, .int .i64 g.md, .int .i64 g.rg.a, .int .i64 g.rg.b, .int .i64 g.rg.c, .int .i64 g.rg.g]
def PG.v (x : PG) : Value := .slice x.wa x.g.ws.length x.wc
def PG.cs (x : PG) : List Value := sgCs x.g x.v
def PG.At (x : PG) (W : World) : Prop := RowAt 1 wcl W x.wa x.g.ws
def zeroPG : PG := ⟨zeroG, none, 0⟩
def knP (m : List PG) (k : Int) : PG := if k < 0 then zeroPG else m.getD k.toNat zeroPG
theorem knP_g (m : List PG) (k : Int) : (knP m k).g = kn (m.map (·.g)) k := by
 unfold knP kn
 split
 ·rfl
 ·rw [List.getD_eq_getElem?_getD, List.getD_eq_getElem?_getD, List.getElem?_map]
  cases m[k.toNat]? <;> rfl
theorem pg_len (x : PG) : x.cs.length = 7 := rfl
structure RowG (W : World) (a : Option Addr) (m : List PG) : Prop where
 row : RowAt 7 PG.cs W a m
 at_ : ∀ x ∈ m, x.At W
theorem PG.At.below {x : PG} {w w' : World} (h : x.At w) (k : Below w.heap.size w w') : x.At w' := RowAt.below (fun _ => rfl) h k
theorem RowG.below {w w' : World} {a : Option Addr} {m : List PG} (h : RowG w a m) (k : Below w.heap.size w w') : RowG w' a m := ⟨h.row.below pg_len k, fun x hx => (h.at_ x hx).below k⟩
theorem below_drewN (w : World) (n : Nat) : Below w.heap.size w (w.drewN n) := by
 induction n with
 | zero => exact Below.refl _ _
 | succ k ih => exact ih.drew
theorem put_any {cs ds : List Value} {W : World} {g : Nat} (h : BlkL g cs W) (hl : cs.length = ds.length) (hp : 0 < ds.length) : ∃ W', W.setCells g 0 ds = W' ∧ W.there g 0 ds.length ∧ BlkL g ds W' ∧ ∀ B W0, B ≤ g → Below B W0 W → Below B W0 W' := by
 have h1 : Blk (W.setCells g 0 ds) g ds := h.1.setAll hl
 have ht := h.1.there
 rw [hl] at ht
 exact ⟨_, rfl, ht, ⟨h1, h1.lt (List.getElem?_eq_getElem hp)⟩, fun B W0 hB h => Below.cells hB _ 0 h⟩
end Go.Proofs.YtidihdiffiffmaaGreatDoor
namespace Go.Proofs.YtidihdiffiffmaaGreatDoor
open Go.RowKit
set_option maxRecDepth 8000
def fr (a : Int) : Nat := rung (U a) % 4503599627370496
end Go.Proofs.YtidihdiffiffmaaGreatDoor
namespace Go.Proofs.YtidihdiffiffmaaGreatDoor
open Go.RowKit
set_option maxRecDepth 8000
set_option linter.unusedSimpArgs false
set_option linter.unusedVariables false
section
variable {ops : Array Oper} {rest : List Oper} {o : Oper} {a : Act} {w : World} {Q : Exit → Act → World → Prop} {T : TypeId} {d : TypeDesc}
theorem wpList_load_midg (hw : Region.wanted o (yielded ops a.tmps) = true) (x : Operand) (ho : o.op = .load T x) (b k : Nat) (hx : a.eval x = .pointer (some ⟨b, k, none⟩)) (cs : List Value) (hc : w.rangeAt b k cs)
    (hu : Tryz.prog.underlying T = some d) (hd : d.isRow = true) (hi : (Tryz.prog.info? T).map (·.size) = some cs.length)
    (h : wpList Tryz.prog ops Q rest (a.put o.dst (.agg cs.toArray)) w) : wpList Tryz.prog ops Q (o :: rest) a w := wpList_step fun K hK => by
 rw [if_pos hw]
 exact wp_load_mid T x ho b k hx cs d hc hu hd hi (hK _ _ h)
end
abbrev rg4 (x : Rg) : List Value := [.int .i64 x.a, .int .i64 x.b, .int .i64 x.c, .int .i64 x.g]
structure GAtC (b : Nat) (x : PG) (W : World) : Prop where
 blk : BlkL b x.cs W
 at_ : x.At W
theorem GAtC.is {b : Nat} {x : PG} {W : World} (h : GAtC b x W) : W.cell? ⟨b, 0, none⟩ = some (.bool x.g.is) := (h.blk.1 0 _ rfl).1
theorem GAtC.ws {b : Nat} {x : PG} {W : World} (h : GAtC b x W) : W.cell? ⟨b, 1, none⟩ = some x.v := (h.blk.1 1 _ rfl).1
theorem GAtC.md {b : Nat} {x : PG} {W : World} (h : GAtC b x W) : W.cell? ⟨b, 2, none⟩ = some (.int .i64 x.g.md) := (h.blk.1 2 _ rfl).1
theorem GAtC.rg {b : Nat} {x : PG} {W : World} (h : GAtC b x W) : W.rangeAt b 3 (rg4 x.g.rg) := fun j u hu => by
 match j, hu with
 | 0, hu => exact (h.blk.1 3 u hu).1
 | 1, hu => exact (h.blk.1 4 u hu).1
 | 2, hu => exact (h.blk.1 5 u hu).1
 | 3, hu => exact (h.blk.1 6 u hu).1
 | j + 4, hu => simp at hu
theorem GAtC.keep {b : Nat} {x : PG} {W : World} (h : GAtC b x W) {W' : World} (hb : Below W.heap.size W W') : GAtC b x W' := ⟨stab_blk _ _ _ _ h.blk hb, h.at_.below hb⟩
end Go.Proofs.YtidihdiffiffmaaGreatDoor
namespace Go.Proofs.YtidihdiffiffmaaGreatDoor
open Go.RowKit
set_option maxRecDepth 8000
set_option linter.unusedSimpArgs false
set_option linter.unusedVariables false
theorem ptr3J_one (i : Ptr) : ∀ v ∈ ptr3 i, v.oneCell' = true := fun v hv => by simp [ptr3] at hv; rcases hv with rfl | rfl | rfl <;> rfl
end Go.Proofs.YtidihdiffiffmaaGreatDoor
namespace Go.Proofs.YtidihdiffiffmaaGreatDoor
open Go.RowKit
set_option maxRecDepth 8000
set_option linter.unusedSimpArgs false
set_option linter.unusedVariables false
def raiseK (c : Cp) (r : Int) (k : Nat) : Cp := { c with ps := (c.ps.take k).map (fun p => ⟨p.s, p.f, gmax p.r r⟩) ++ c.ps.drop k }
theorem four {l : List Ptr} (h : l.length = 4) : ∃ p q r s, l = [p, q, r, s] := by
 match l, h with
 | [p, q, r, s], _ => exact ⟨p, q, r, s, rfl⟩
theorem raise_step {c : Cp} (h : c.ps.length = 4) (v : Value) (r : Int) {k : Nat} (hk : k < 4) : (stCs (raiseK c r k) v).set (4 + k * 3 + 2) (.int .i64 (gmax (c.ps.getD k ⟨0, 0, 0⟩).r r)) = stCs (raiseK c r (k + 1)) v := by
 obtain ⟨p0, p1, p2, p3, hl⟩ := four h
 obtain ⟨s, o, rg, a, ps, st, hl'⟩ := c
 simp only at hl
 subst hl
 match k, hk with
 | 0, _ => rfl
 | 1, _ => rfl
 | 2, _ => rfl
 | 3, _ => rfl
theorem raise_ptr {c : Cp} (h : c.ps.length = 4) (r : Int) {k : Nat} (hk : k < 4) : (raiseK c r k).ps.getD k ⟨0, 0, 0⟩ = c.ps.getD k ⟨0, 0, 0⟩ := by
 obtain ⟨p0, p1, p2, p3, hl⟩ := four h
 obtain ⟨s, o, rg, a, ps, st, hl'⟩ := c
 simp only at hl
 subst hl
 match k, hk with
 | 0, _ => rfl
 | 1, _ => rfl
 | 2, _ => rfl
 | 3, _ => rfl
theorem raise_len {c : Cp} (h : c.ps.length = 4) (r : Int) (k : Nat) : (raiseK c r k).ps.length = 4 := by
 simp only [raiseK, List.length_append, List.length_map, List.length_take, List.length_drop]
 omega
theorem raise_zero (c : Cp) (r : Int) : raiseK c r 0 = c := by simp [raiseK]
theorem raise_four {c : Cp} (h : c.ps.length = 4) (r : Int) : raiseK c r 4 = raiseC c r := by
 unfold raiseK raiseC
 rw [List.take_of_length_le (by omega), List.drop_of_length_le (by omega), List.append_nil]
theorem st_one (c : Cp) (v : Value) (hv : v.oneCell' = true) : ∀ u ∈ stCs c v, u.oneCell' = true := fun u hu => by
 unfold stCs at hu
 rcases List.mem_append.1 hu with hu | hu
 ·simp at hu
  rcases hu with rfl | rfl | rfl | rfl <;> rfl
 ·rcases List.mem_append.1 hu with hu | hu
  ·obtain ⟨p, _, hp⟩ := List.mem_flatMap.1 hu
   exact ptr3J_one p u hp
  ·simp at hu
   rcases hu with rfl | rfl
   ·exact hv
   ·rfl
abbrev nilS : Value := .slice none 0 0
abbrev zS : Array Value := #[.int .i64 0, .int .i64 0, .int .i64 0, .int .i64 0, .int .i64 0, .int .i64 0, .int .i64 0, .int .i64 0, .int .i64 0, .int .i64 0, .int .i64 0, .int .i64 0, .int .i64 0, .int .i64 0, .int .i64 0, .int .i64 0, .slice none 0 0, .bool false]
theorem zS_eq : (stCs zeroC nilS).toArray = zS := rfl
theorem put_st {W : World} {g : Nat} {c : Cp} {v : Value} (h : StAt g c v W) {d : Cp} (hd : d.ps.length = 4) (u : Value) : ∃ W', W.setCells g 0 (stCs d u) = W' ∧ W.there g 0 (stCs d u).length ∧ StAt g d u W' ∧ ∀ B W0, B ≤ g → Below B W0 W → Below B W0 W' := by
 obtain ⟨W', h1, h2, h3, h5⟩ := put_any h.blk (ds := stCs d u) (by rw [st_len h.ps, st_len hd]) (by rw [st_len hd]; decide)
 exact ⟨W', h1, h2, ⟨hd, h3⟩, h5⟩
theorem far_blk {W : World} {g b : Nat} {cs : List Value} (h : BlkL g cs W) (hne : b ≠ g) (o : Nat) (u : Value) : BlkL g cs (W.setCell ⟨b, o, none⟩ u) := by
 refine ⟨fun j v hv => ?_, by simpa using h.2⟩
 have h1 := h.1 j v hv
 refine ⟨?_, ?_⟩
 ·rw [World.cell?_setCell_far _ _ _ _ (by show b ≠ g; exact hne)]
  exact h1.1
 ·rw [World.frozen?_setCell]
  exact h1.2
end Go.Proofs.YtidihdiffiffmaaGreatDoor
namespace Go.Proofs.YtidihdiffiffmaaGreatDoor
open Go.RowKit
set_option maxRecDepth 8000
set_option linter.unusedSimpArgs false
set_option linter.unusedVariables false
theorem fill_one {s : Nat} (hs : 0 < s) (zs : Array Value) (cs : List Value) (hz : zs.size = s) (hc : cs.length = s) : Instr.fill (fun i => some (i * s, s)) zs [(0, .agg cs.toArray)] = some cs.toArray := by
 obtain ⟨r, h1, h2, h3⟩ := Great.fill_dense hs [.agg cs.toArray] 0 zs (fun v hv => by rw [List.mem_singleton] at hv; subst hv; simp [Value.cells, hc]) (by simp [hz])
 rw [show ([Value.agg cs.toArray].zipIdx 0).map (fun x => (x.2, x.1)) = [(0, .agg cs.toArray)] from rfl] at h1
 rw [h1]
 congr 1
 apply Array.ext_getElem?
 intro k
 rw [h3 k]
 by_cases hk : k < s
 ·rw [if_pos (by simp; omega)]
  simp [Nat.div_eq_of_lt hk, Nat.mod_eq_of_lt hk, Value.cells]
 ·rw [if_neg (by simp; omega)]
  simp [Array.getElem?_eq_none (show zs.size ≤ k by omega), List.getElem?_eq_none (show cs.length ≤ k by omega)]
section
variable {ops : Array Oper} {rest : List Oper} {o : Oper} {a : Act} {w : World} {Q : Exit → Act → World → Prop}
theorem run_build1 {α : Type} {e t : TypeId} {sz : Nat} {f : α → List Value} (hE : ElemOk e t sz f) (hsz : sz ≤ 1000) (w : World) (cs : List Value) (hc : cs.length = sz) : (Instr.buildSlice t 1 #[(0, .agg cs.toArray)]).run Tryz.prog w = .ok (.slice (some ⟨w.heap.size, 0, none⟩) 1 1) (w.alloc (.cells cs.toArray e)) := by
 obtain ⟨i, z, b, hi, hz, hs, hb, hzs, hbb⟩ := hE.info
 have hp := hE.pos
 refine run_buildSlice (P := Tryz.prog) w t e 1 #[(0, .agg cs.toArray)] cs.toArray i z hE.und hi hz (by rw [hs]; omega) (by rw [hs]; omega) ?_
 rw [hs, Nat.one_mul]
 exact fill_one hp _ cs (by simp) hc
theorem wpList_build1 {α : Type} {e t : TypeId} {sz : Nat} {f : α → List Value} (hE : ElemOk e t sz f) (hsz : sz ≤ 1000) (hg : o.guard = none) (x : Operand) (ho : o.op = .buildSlice t 1 #[(0, x)]) (cs : List Value) (hx : a.eval x = .agg cs.toArray) (hc : cs.length = sz)
    (h : wpList Tryz.prog ops Q rest (a.put o.dst (.slice (some ⟨w.heap.size, 0, none⟩) 1 1)) (w.alloc (.cells cs.toArray e))) : wpList Tryz.prog ops Q (o :: rest) a w := by
 refine wpList_value hg ?_ h
 unfold execOp
 have hr := run_build1 hE hsz w cs hc
 simp [ho, hx, hr, Result.andThen]
 try rfl
theorem step_build1 {α : Type} {e t : TypeId} {sz : Nat} {f : α → List Value} {K : Act → World → Prop} {E : Prop} (hE : ElemOk e t sz f) (hsz : sz ≤ 1000) (hg : o.guard = none) (x : Operand) (ho : o.op = .buildSlice t 1 #[(0, x)]) (cs : List Value) (hx : a.eval x = .agg cs.toArray) (hc : cs.length = sz)
    (hK : K (a.put o.dst (.slice (some ⟨w.heap.size, 0, none⟩) 1 1)) (w.alloc (.cells cs.toArray e))) :
    if Region.wanted o (yielded ops a.tmps) = true then Oper.wp Tryz.prog o a w K Q else E := by
 have hw : Region.wanted o (yielded ops a.tmps) = true := by simp [Region.wanted, hg]
 rw [if_pos hw]
 unfold Oper.wp execOp
 have hr := run_build1 hE hsz w cs hc
 simp [ho, hx, hr, Result.andThen]
 exact hK
end
end Go.Proofs.YtidihdiffiffmaaGreatDoor
namespace Go.Proofs.YtidihdiffiffmaaGreatDoor
open Go.RowKit
set_option maxRecDepth 8000
set_option linter.unusedSimpArgs false
set_option linter.unusedVariables false
def frc (f : Fr) : List Value := [.int .i64 f.s, .int .i64 f.f, .int .i64 f.r]
theorem frc_len (f : Fr) : (frc f).length = 3 := rfl
theorem frs_load (w : World) (y : Addr) (v : Value) (h : w.cell? y = some v) : (Instr.loadAt 53 (.pointer (some y))).run Tryz.prog w = .ok v w := by
 have h1 := Tryz.underlying53
 go_simp
theorem StAt.pts {b : Nat} {c : Cp} {v : Value} {W : World} (h : StAt b c v W) : W.rangeAt b 4 (c.ps.flatMap ptr3) := fun j u hu => by
 have hj : j < 12 := by have := (List.getElem?_eq_some_iff.1 hu).1; rw [flat_length ptr3_len, h.ps] at this; exact this
 refine (h.blk.1 (4 + j) u ?_).1
 unfold stCs
 rw [List.getElem?_append_right (by show 4 ≤ 4 + j; omega), show 4 + j - [Value.int .i64 c.seg, .int .i64 c.off, .int .i64 c.ring, .int .i64 c.a].length = j by show 4 + j - 4 = j; omega]
 rw [List.getElem?_append_left (by rw [flat_length ptr3_len, h.ps]; omega), hu]
theorem eqIn_ptr (p : Ptr) (d : Nat) (w : World) : (Op.equalIn (d + 2) 41 (.agg (ptr3 p).toArray) (.agg (ptr3 p).toArray)).run Tryz.prog w = .ok true w := by
 have h1 := Tryz.underlying41
 have h2 := Tryz.underlying3
 go_simp
theorem part_pts (p0 p1 p2 p3 : Ptr) (k : Nat) (p : Ptr) (h : [p0, p1, p2, p3][k]? = some p) (w : World) : (part 41 ([p0, p1, p2, p3].flatMap ptr3).toArray (k * 3)).run Tryz.prog w = .ok (.agg (ptr3 p).toArray) w := by
 have h1 := Tryz.underlying41
 match k, h with
 | 0, h => obtain rfl : p0 = p := by simpa using h
           unfold part
           go_simp
 | 1, h => obtain rfl : p1 = p := by simpa using h
           unfold part
           go_simp
 | 2, h => obtain rfl : p2 = p := by simpa using h
           unfold part
           go_simp
 | 3, h => obtain rfl : p3 = p := by simpa using h
           unfold part
           go_simp
theorem run_neq_pts {ps : List Ptr} (h : ps.length = 4) (w : World) : (binOp .neq 42 (.agg (ps.flatMap ptr3).toArray) (.agg (ps.flatMap ptr3).toArray)).run Tryz.prog w = .ok (.bool false) w := by
 obtain ⟨p0, p1, p2, p3, rfl⟩ := four h
 have h1 := Tryz.underlying42
 have e0 := part_pts p0 p1 p2 p3 0 p0 rfl
 have e1 := part_pts p0 p1 p2 p3 1 p1 rfl
 have e2 := part_pts p0 p1 p2 p3 2 p2 rfl
 have e3 := part_pts p0 p1 p2 p3 3 p3 rfl
 have q0 := eqIn_ptr p0 9997
 have q1 := eqIn_ptr p1 9997
 have q2 := eqIn_ptr p2 9997
 have q3 := eqIn_ptr p3 9997
 generalize ([p0, p1, p2, p3].flatMap ptr3).toArray = X at *
 have key : (Op.equalIn 10000 42 (.agg X) (.agg X)).run Tryz.prog w = .ok true w := by
  unfold Op.equalIn
  simp only [Sem.run_bind, run_underlying h1, Result.andThen_ok]
  have hs : ∀ w, (sizeOf 41).run Tryz.prog w = .ok 3 w := fun w => by go_simp
  simp only [hs, Result.andThen_ok, Std.Legacy.Range.forIn_eq_forIn_range', Std.Legacy.Range.size, Nat.sub_zero, Nat.add_one_sub_one, Nat.div_one, List.range', List.forIn_cons, List.forIn_nil, Sem.run_bind, Sem.run_pure, e0, e1, e2, e3, q0, q1, q2, q3, Nat.reduceMul, Nat.zero_add, Nat.reduceAdd, Nat.zero_mul, Bool.not_true, Bool.false_eq_true, if_false]
 go_simp
theorem run_neq_fr (f : Fr) (w : World) : (binOp .neq 101 (.agg (frc f).toArray) (.agg (frc f).toArray)).run Tryz.prog w = .ok (.bool false) w := by
 have h1 := Tryz.underlying101
 unfold frc
 go_simp
end Go.Proofs.YtidihdiffiffmaaGreatDoor
namespace Go.Proofs.YtidihdiffiffmaaGreatDoor
open Go.RowKit
set_option maxRecDepth 8000
set_option linter.unusedSimpArgs false
set_option linter.unusedVariables false
theorem fr_ok : ElemOk 101 53 3 frc :=
 ⟨Tryz.underlying53, by
  obtain ⟨i, h1, h2, h3, h4⟩ := info_of (e := 101) (z := .agg #[.int .i64 0, .int .i64 0, .int .i64 0]) (sz := 3) (b := 24) (by kernel_rfl)
  exact ⟨i, _, _, h1, h2, h3, h4, rfl, by omega⟩, by omega, fun _ => rfl, fun x u hu => by simp [frc] at hu; rcases hu with rfl | rfl | rfl <;> rfl⟩
theorem crs_load (w : World) (y : Addr) (v : Value) (h : w.cell? y = some v) : (Instr.loadAt 43 (.pointer (some y))).run Tryz.prog w = .ok v w := by
 have h1 := Tryz.underlying43
 go_simp
section
variable {ops : Array Oper} {rest : List Oper} {o : Oper} {a : Act} {w : World} {Q : Exit → Act → World → Prop}
theorem wpList_buildv {T : TypeId} (hg : o.guard = none) (fs : Array (Nat × Operand)) (ho : o.op = .build T fs) (vs : Array (Nat × Value)) (hv : (fs.map fun x => (x.1, a.eval x.2)) = vs) {r : Value} (hc : (Instr.build T vs).run Tryz.prog w = .ok r w)
    (h : wpList Tryz.prog ops Q rest (a.put o.dst r) w) : wpList Tryz.prog ops Q (o :: rest) a w := by
 refine wpList_value hg ?_ h
 unfold execOp
 simp only [ho]
 rw [hv]
 simp [hc, Result.andThen]
end
theorem new_st (W : World) (c : Cp) (h4 : c.ps.length = 4) (v : Value) (T : TypeId) : ∃ W', (W.alloc (.cells zS T)).setCells W.heap.size 0 (stCs c v) = W' ∧ (W.alloc (.cells zS T)).there W.heap.size 0 (stCs c v).length ∧ StAt W.heap.size c v W' ∧ Below W.heap.size W W' := by
 have hb0 : StAt W.heap.size zeroC nilS (W.alloc (.cells zS T)) := ⟨rfl, blkl_alloc W (stCs zeroC nilS).toArray T⟩
 have hB0 := alloc_below W (.cells zS T)
 obtain ⟨W3, hW3, hth3, hb3, hk3⟩ := put_st hb0 h4 v
 exact ⟨W3, hW3, hth3, hb3, hk3 _ _ (Nat.le_refl _) hB0⟩
theorem st_setStk {c : Cp} (h : c.ps.length = 4) (v u : Value) : (stCs c v).set 16 u = stCs c u := by
 obtain ⟨p0, p1, p2, p3, hl⟩ := four h
 obtain ⟨s, o, rg, a, ps, st, hl'⟩ := c
 simp only at hl
 subst hl
 rfl
theorem StAt.setStk {b : Nat} {c : Cp} {v : Value} {W : World} (h : StAt b c v W) (u : Value) : StAt b c u (W.setCell ⟨b, 16, none⟩ u) := by
 have h1 := h.blk.1.set 16 u (by rw [st_len h.ps]; decide)
 rw [st_setStk h.ps] at h1
 exact ⟨h.ps, h1, h1.lt (List.getElem?_eq_getElem (by rw [st_len h.ps]; decide : 0 < (stCs c u).length))⟩
section
variable {ops : Array Oper} {o : Oper} {a : Act} {w : World} {Q : Exit → Act → World → Prop} {T : TypeId}
theorem step_oneJ {K : Act → World → Prop} {E : Prop} (hg : o.guard = none) (x : Operand) (ho : o.op = .load T x) (y : Addr) (hx : a.eval x = .pointer (some y)) (v : Value) (hc : w.cell? y = some v) (hl : ∀ w y v, w.cell? y = some v → (Instr.loadAt T (.pointer (some y))).run Tryz.prog w = .ok v w) (hK : K (a.put o.dst v) w) :
    if Region.wanted o (yielded ops a.tmps) = true then Oper.wp Tryz.prog o a w K Q else E := by
 have hw : Region.wanted o (yielded ops a.tmps) = true := by simp [Region.wanted, hg]
 rw [if_pos hw]
 unfold Oper.wp
 simp [execOp, ho, hx, hl w y v hc, Result.andThen]
 exact hK
theorem frs_store (w : World) (y : Addr) (u v : Value) {b : Option Addr} {n c : Nat} (hs : v = .slice b n c) (hc : w.cell? y = some u) (hf : w.frozen? y = false) : (Instr.storeAt 53 (.pointer (some y)) v).run Tryz.prog w = .ok () (w.setCell y v) := by
 subst hs
 have h1 := Tryz.underlying53
 go_simp
theorem step_storeJ {K : Act → World → Prop} {E : Prop} (hg : o.guard = none) (x z : Operand) (ho : o.op = .store 53 x z) (y : Addr) (hx : a.eval x = .pointer (some y)) (v : Value) (hz : a.eval z = v) (u : Value) (hc : w.cell? y = some u) (hf : w.frozen? y = false) {b : Option Addr} {n c : Nat} (hs : v = .slice b n c) (hK : K (a.put o.dst undef) (w.setCell y v)) :
    if Region.wanted o (yielded ops a.tmps) = true then Oper.wp Tryz.prog o a w K Q else E := by
 have hw : Region.wanted o (yielded ops a.tmps) = true := by simp [Region.wanted, hg]
 rw [if_pos hw]
 unfold Oper.wp
 simp [execOp, ho, hx, hz, frs_store w y u v hs hc hf, Result.andThen]
 exact hK
end
end Go.Proofs.YtidihdiffiffmaaGreatDoor
namespace Go.Proofs.YtidihdiffiffmaaGreatDoor
open Go.RowKit
set_option maxRecDepth 8000
set_option linter.unusedSimpArgs false
set_option linter.unusedVariables false
section
variable {α : Type} {e t : TypeId} {sz : Nat} {f : α → List Value}
theorem OwnR.appendW {w : World} {base : Nat} {v : Value} {l : List α} (hE : ElemOk e t sz f) (h : OwnR e sz f w base v l) (hb : base ≤ w.heap.size) (a : Option Addr) (m c : Nat) (l2 : List α) (hm : l2.length = m) (h2 : RowAt sz f w a l2) (hn : a = none → c = 0 ∧ m = 0) (hl : l.length < 900000) (hl2 : m < 900000) :
    ∃ v' w', (Builtin.append_ #[t, t] t #[v, .slice a m c]).run Tryz.prog w = .ok v' w' ∧ OwnR e sz f w' base v' (l ++ l2) ∧ Grew w v w' v' := by
 cases a with
 | some y => exact h.append hE hb y m c l2 hm h2 hl hl2
 | none =>
  obtain ⟨rfl, hm0⟩ := hn rfl
  subst hm0
  obtain rfl : l2 = [] := List.eq_nil_of_length_eq_zero hm
  obtain ⟨i, z, b, hi, _⟩ := hE.info
  have ho : w.ownsRow base e sz v l.length (l.flatMap f) := h
  refine ⟨v, w, run_append_owned_none (P := Tryz.prog) (w := w) base t t e i sz hE.und hi v l.length _ ho, by rw [List.append_nil]; exact h, Grew.refl _ _⟩
theorem own_emptyW (W : World) {base : Nat} (hb : base ≤ W.heap.size) : OwnR e sz f (W.alloc (.cells #[] e)) base (.slice (some ⟨W.heap.size, 0, none⟩) 0 0) ([] : List α) := by
 refine ⟨by simp, .inr ⟨W.heap.size, 0, #[], rfl, hb, heap_alloc_new W _, Nat.le_refl _, by simp only [maxLen]; omega, ?_, ?_⟩⟩
 ·simp
 ·simp
theorem wasW_run (hE : ElemOk e t sz f) {W : World} {a : Option Addr} {c n : Nat} {l : List α} (h : RowAt sz f W a l) (hl : l.length = n) (hn : a = none → c = 0 ∧ n = 0) (hlt : n < 900000) :
    ∃ v' W', (Builtin.append_ #[t, t] t #[.slice (some ⟨W.heap.size, 0, none⟩) 0 0, .slice a n c]).run Tryz.prog (W.alloc (.cells #[] e)) = .ok v' W' ∧ OwnR e sz f W' W.heap.size v' l ∧ Below W.heap.size W W' := by
 have hB := alloc_below W (.cells #[] e)
 have ho := own_emptyW (e := e) (sz := sz) (f := f) W (Nat.le_refl W.heap.size)
 obtain ⟨v', W', hap, ho', hg⟩ := OwnR.appendW hE ho (by simp) a n c l hl (h.below hE.len hB) hn (by simp) hlt
 have hb := ho.grew_below (by simp) hg
 rw [List.nil_append] at ho'
 exact ⟨v', W', hap, ho', hB.trans hb⟩
theorem build0_runW (hE : ElemOk e t sz f) (W : World) : (Instr.buildSlice t 0 #[]).run Tryz.prog W = .ok (.slice (some ⟨W.heap.size, 0, none⟩) 0 0) (W.alloc (.cells #[] e)) := by
 obtain ⟨i, z, b, hi, hz, hs, hb, hzs, hbb⟩ := hE.info
 simp [Instr.buildSlice, run_underlying hE.und, sizeOf, typeInfo, zeroValue, hi, hz, newRow, Instr.fill]
 rw [show Array.range 0 = #[] from rfl, Array.map_empty]
end
section
variable {α : Type} {e t : TypeId} {sz : Nat} {f : α → List Value} {ops : Array Oper} {rest : List Oper} {o : Oper} {a : Act} {w : World} {Q : Exit → Act → World → Prop}
theorem wpList_build0W (hE : ElemOk e t sz f) (hg : o.guard = none) (ho : o.op = .buildSlice t 0 #[])
    (h : wpList Tryz.prog ops Q rest (a.put o.dst (.slice (some ⟨w.heap.size, 0, none⟩) 0 0)) (w.alloc (.cells #[] e))) : wpList Tryz.prog ops Q (o :: rest) a w := by
 refine wpList_value hg ?_ h
 unfold execOp
 have hr := build0_runW hE w
 simp [ho, hr, Result.andThen]
 try rfl
end
end Go.Proofs.YtidihdiffiffmaaGreatDoor
