/-
  PART 1 of what the claims of this seat lean on: Common Names Texts Labs Grs LAclPure LAclBase LAclName LAclCheck.
-/
import Derived.Test.YtcijdpbocgjeoaaDoorProg
import Derived.WalkKit
import Derived.WalkLawsBesides
import Derived.Laws.AppendOwn
import Derived.Laws.OwnMore
import Derived.KernelRfl
import Derived.ProofKit
import Derived.Below
import Derived.Lib.Strings
import Derived.Lib.Bytealg
import Derived.Laws.RangeAny
import Derived.Deep.RegionHeld
import Derived.Deep.LoopGhost
namespace Go.Proofs.YtcijdpbocgjeoaaDoor
theorem gA {α : Type} {xs : List α} {i : Nat} : xs.toArray[i]? = xs[i]? := List.getElem?_toArray
theorem gB {α : Type} {a : α} {l : List α} : (a :: l)[0]? = some a := List.getElem?_cons_zero
theorem gC {α : Type} {a : α} {l : List α} {i : Nat} : (a :: l)[i + 1]? = l[i]? := List.getElem?_cons_succ
theorem sA {α : Type} {xs : List α} {i : Nat} {a : α} : xs.toArray.setIfInBounds i a = (xs.set i a).toArray := List.setIfInBounds_toArray xs i a
theorem sB {α : Type} {a b : α} {l : List α} : (a :: l).set 0 b = b :: l := List.set_cons_zero
theorem sC {α : Type} {a b : α} {l : List α} {i : Nat} : (a :: l).set (i + 1) b = a :: l.set i b := List.set_cons_succ
end Go.Proofs.YtcijdpbocgjeoaaDoor
/-! SMALL THINGS THAT EVERY STAGE'S TEXTS SHARE: worlds one behind the other, hypotheses laid aside, an operation by its run. -/
namespace Go.Proofs.YtcijdpbocgjeoaaDoor
open Go.RowKit
set_option maxRecDepth 8000
set_option linter.unusedSimpArgs false
set_option linter.unusedVariables false

theorem Below.then {w W W' : World} (h : Below w.heap.size w W) (k : Below W.heap.size W W') : Below w.heap.size w W' := h.trans (k.mono h.size)
def Aside (p : Prop) : Prop := p
theorem Aside.out {p : Prop} (h : Aside p) : p := h
theorem add_at (g j : Nat) : (⟨g, 0, none⟩ : Addr).add j = ⟨g, j, none⟩ := by
  simp [Addr.add]
  exact fun h => h.symm
theorem add_off (y : Addr) (m i : Nat) (h : i ≠ 0) : y.add (m + i) = ⟨(y.add m).block, (y.add m).off + i, none⟩ := by
  unfold Addr.add
  by_cases hm : m = 0
  · simp [hm, h]
  · rw [if_neg (by omega), if_neg hm]
    simp [Nat.add_assoc]
section
variable {ops : Array Oper} {rest : List Oper} {o : Oper} {a : Act} {w : World} {Q : Exit → Act → World → Prop}
theorem wpList_value {P : Program} (hg : o.guard = none) {v : Value} {w' : World} (hx : (execOp a.eval o).run P w = .ok (.value v) w') (h : wpList P ops Q rest (a.put o.dst v) w') : wpList P ops Q (o :: rest) a w :=
  wpList_plain hg fun _ hK => by
    unfold Oper.wp
    rw [hx]
    exact hK _ _ h
end
end Go.Proofs.YtcijdpbocgjeoaaDoor

/-! NAMES, FOR THE STAGES BEHIND THE SEVENTH: package path's Name and the document's own (donjonref7). -/
namespace Go.Proofs.YtcijdpbocgjeoaaDoor
open Go.RowKit
set_option maxRecDepth 8000
set_option linter.unusedSimpArgs false
set_option linter.unusedVariables false

def eqs (a b : ByteArray) : Bool := a.toList == b.toList
theorem toL (a : ByteArray) : a.toList = a.data.toList := Lib.toList_data a
theorem eqs_iff {a b : ByteArray} : eqs a b = true ↔ a = b := by
  unfold eqs
  rw [toL, toL]
  simp only [beq_iff_eq]
  exact ⟨fun h => by cases a; cases b; simpa using h, fun h => by rw [h]⟩
theorem eqs_self (a : ByteArray) : eqs a a = true := eqs_iff.2 rfl
theorem eqs_ne {a b : ByteArray} (h : a ≠ b) : eqs a b = false := by
  cases he : eqs a b
  · rfl
  · exact absurd (eqs_iff.1 he) h
def okB (c : UInt8) : Bool := (decide (97 ≤ c.toNat) && decide (c.toNat ≤ 122)) || (decide (48 ≤ c.toNat) && decide (c.toNat ≤ 57))
def name (u : ByteArray) : Bool := decide (1 ≤ u.size) && (decide (u.size ≤ 12) && u.data.toList.all okB)
theorem all_drop {u : ByteArray} {i : Nat} (h : i < u.size) : (u.data.toList.drop i).all okB = (okB (u[i]'h) && (u.data.toList.drop (i + 1)).all okB) := by
  have hi : i < u.data.toList.length := by rw [Array.length_toList]; exact h
  rw [List.drop_eq_getElem_cons hi, List.all_cons]
  rfl
set_option maxHeartbeats 2000000 in
theorem rname_any (u : ByteArray) (hu : u.size ≤ 9223372036854775807) (w : World) :
    Calls Tryd.prog 31 #[.string u] w fun e w' => e = .returned (.bool (name u)) ∧ w' = w := by
  obtain ⟨b, hb⟩ : ∃ b, name u = b := ⟨_, rfl⟩
  rw [hb]
  have hb0 : Aside (b = (decide (1 ≤ u.size) && (decide (u.size ≤ 12) && (u.data.toList.drop 0).all okB))) := by rw [Aside, ← hb]; rfl
  clear hb
  go_enter Tryd.func31, Tryd.ntmps31
  go_wp2
  go_loopw [3] (fun t wr => ∃ i : Nat, i ≤ u.size ∧ t = .int .i64 (i : Int) ∧ wr = w ∧ Aside (b = (decide (1 ≤ u.size) && (decide (u.size ≤ 12) && (u.data.toList.drop i).all okB)))) (fun t _ => u.size - (Go.RowKit.intOf t).toNat)
  case atStart => exact ⟨0, by omega, rfl, rfl, hb0⟩
  case round =>
    obtain ⟨i, hi, rfl, rfl, hall⟩ := hrel
    by_cases hlt : i < u.size
    · have hd := all_drop hlt
      obtain ⟨k, hk⟩ : ∃ k : Nat, (u[i]'hlt).toNat = k := ⟨_, rfl⟩
      rw [okB, hk] at hd
      by_cases hok : (97 ≤ k ∧ k ≤ 122) ∨ (48 ≤ k ∧ k ≤ 57)
      · have hn : Aside (b = (decide (1 ≤ u.size) && (decide (u.size ≤ 12) && (u.data.toList.drop (i + 1)).all okB))) := by
          refine hall.out.trans ?_
          rw [hd]
          rcases hok with ⟨h, h'⟩ | ⟨h, h'⟩ <;> simp [h, h']
        clear hall hd
        rcases hok with ⟨h3, h4⟩ | ⟨h3, h4⟩
        · go_wp2
          exact ⟨⟨i + 1, by omega, by simp, trivial, hn⟩, by simp [Go.RowKit.intOf]; omega⟩
        · go_wp2
          exact ⟨⟨i + 1, by omega, by simp, trivial, hn⟩, by simp [Go.RowKit.intOf]; omega⟩
      · obtain rfl : b = false := by
          refine hall.out.trans ?_
          rw [hd]
          rw [Bool.and_eq_false_iff]
          right
          rw [Bool.and_eq_false_iff]
          right
          rw [Bool.and_eq_false_iff]
          left
          simp only [Bool.or_eq_false_iff, Bool.and_eq_false_iff, decide_eq_false_iff_not]
          omega
        clear hall hd hb0
        by_cases h3 : k < 97
        · by_cases h4 : k < 48
          · go_wp2
            go_ret
            exact ⟨rfl, rfl⟩
          · have h5 : 57 < k := by omega
            go_wp2
            go_ret
            exact ⟨rfl, rfl⟩
        · have h5 : 122 < k := by omega
          go_wp2
          go_ret
          exact ⟨rfl, rfl⟩
    · have he : Aside (b = (decide (1 ≤ u.size) && decide (u.size ≤ 12))) := by
        refine hall.out.trans ?_
        rw [List.drop_eq_nil_of_le (by rw [Array.length_toList]; show u.size ≤ i; omega)]
        simp
      clear hall hb0
      by_cases h1 : 1 ≤ u.size
      · by_cases h2 : u.size ≤ 12
        · obtain rfl : b = true := by rw [he.out]; simp [h1, h2]
          go_wp2
          go_ret
          exact ⟨by simp; omega, rfl⟩
        · obtain rfl : b = false := by rw [he.out]; simp [h2]
          go_wp2
          go_ret
          exact ⟨by simp; omega, rfl⟩
      · obtain rfl : b = false := by rw [he.out]; simp [h1]
        go_wp2
        go_ret
        exact ⟨by simp; try omega, rfl⟩
theorem below_iter (w : World) (s : ByteArray) (pos : Nat) : Below w.heap.size w (w.iter s pos) := (Below.refl _ _).alloc (Nat.le_refl _) _
set_option maxHeartbeats 2000000 in
theorem name_any (u : ByteArray) (hu : u.size ≤ 9223372036854775807) (w : World) :
    Calls Tryd.prog 26 #[.string u] w fun e w' => e = .returned (.bool (name u)) ∧ Below w.heap.size w w' := by
  obtain ⟨b, hb⟩ : ∃ b, name u = b := ⟨_, rfl⟩
  rw [hb]
  by_cases h1 : u.size < 1
  · obtain rfl : b = false := by rw [← hb, name]; simp; omega
    clear hb
    as_aux_lemma =>
      go_enter Tryd.func26, Tryd.ntmps26
      go_wp2
      go_ret
      exact ⟨rfl, Below.refl _ _⟩
  by_cases h12 : 12 < u.size
  · obtain rfl : b = false := by rw [← hb, name]; simp; omega
    clear hb
    as_aux_lemma =>
      go_enter Tryd.func26, Tryd.ntmps26
      go_wp2
      go_ret
      exact ⟨rfl, Below.refl _ _⟩
  have hb0 : Aside (b = (u.data.toList.drop 0).all okB) := by
    rw [Aside, ← hb, name, List.drop_zero]
    simp [show 1 ≤ u.size by omega, show u.size ≤ 12 by omega]
  clear hb
  go_enter Tryd.func26, Tryd.ntmps26
  go_wp2
  go_loopw [2] (fun t w' => ∃ pos : Nat, pos ≤ u.size ∧ w' = w.iter u pos ∧ t = .bool false ∧ Aside (b = (u.data.toList.drop pos).all okB)) (fun _ w' => u.size - w'.iterPos w.heap.size)
  case atStart => exact ⟨0, by omega, rfl, rfl, hb0⟩
  case round =>
    obtain ⟨pos, hpos, rfl, rfl, hall⟩ := hrel
    have hB := below_iter w u
    by_cases hlt : pos < u.size
    · have hd := all_drop hlt
      by_cases hasc : (u[pos]'hlt).toNat < 128
      · have hnx : ∀ ty, (Instr.next (.pointer (some ⟨w.heap.size, 0, none⟩)) true ty).run Tryd.prog (w.iter u pos) = _ := fun ty => run_next_ascii w u pos ty hlt hasc
        obtain ⟨k, hk⟩ : ∃ k : Nat, (u[pos]'hlt).toNat = k := ⟨_, rfl⟩
        rw [okB, hk] at hd
        simp only [hk] at hnx
        clear hasc
        by_cases hok : (97 ≤ k ∧ k ≤ 122) ∨ (48 ≤ k ∧ k ≤ 57)
        · have hn : Aside (b = (u.data.toList.drop (pos + 1)).all okB) := by
            refine hall.out.trans ?_
            rw [hd]
            rcases hok with ⟨h, h'⟩ | ⟨h, h'⟩ <;> simp [h, h']
          clear hall hd hk
          rcases hok with ⟨h3, h4⟩ | ⟨h3, h4⟩
          · as_aux_lemma =>
              go_wp2
              go_roundw
              case rel => exact ⟨pos + 1, by omega, rfl, rfl, hn⟩
              case measure => simp; omega
          · as_aux_lemma =>
              go_wp2
              go_roundw
              case rel => exact ⟨pos + 1, by omega, rfl, rfl, hn⟩
              case measure => simp; omega
        · obtain rfl : b = false := by
            refine hall.out.trans ?_
            rw [hd, Bool.and_eq_false_iff]
            left
            simp only [Bool.or_eq_false_iff, Bool.and_eq_false_iff, decide_eq_false_iff_not]
            omega
          clear hall hd hb0 hk
          by_cases h3 : k < 97
          · by_cases h4 : k < 48
            · as_aux_lemma =>
                go_wp2
                go_ret
                exact ⟨rfl, hB _⟩
            · have h5 : 57 < k := by omega
              as_aux_lemma =>
                go_wp2
                go_ret
                exact ⟨rfl, hB _⟩
          · have h5 : 122 < k := by omega
            as_aux_lemma =>
              go_wp2
              go_ret
              exact ⟨rfl, hB _⟩
      · have hnx : ∀ ty, (Instr.next (.pointer (some ⟨w.heap.size, 0, none⟩)) true ty).run Tryd.prog (w.iter u pos) = _ := fun ty => run_next_any w u pos ty hlt
        have hhi := (decode_high u pos hlt (by omega)).1
        obtain ⟨k, hk⟩ : ∃ k : Nat, (Utf8.decode u pos).1 = k := ⟨_, rfl⟩
        obtain ⟨wd, hwd⟩ : ∃ k : Nat, (Utf8.decode u pos).2 = k := ⟨_, rfl⟩
        rw [hk] at hhi
        simp only [hk, hwd] at hnx
        obtain rfl : b = false := by
          refine hall.out.trans ?_
          rw [hd, Bool.and_eq_false_iff]
          left
          simp only [okB, Bool.or_eq_false_iff, Bool.and_eq_false_iff, decide_eq_false_iff_not]
          omega
        clear hall hd hb0 hk hwd hasc
        have h5 : 122 < k := by omega
        have h6 : ¬ k < 97 := by omega
        have h7 : ¬ k < 48 := by omega
        have h8 : 57 < k := by omega
        clear hhi
        as_aux_lemma =>
          go_wp2
          go_ret
          exact ⟨rfl, hB _⟩
    · have hnx : ∀ ty, (Instr.next (.pointer (some ⟨w.heap.size, 0, none⟩)) true ty).run Tryd.prog (w.iter u pos) = _ := fun ty => run_next_end w u pos ty hlt
      obtain rfl : b = true := by
        refine hall.out.trans ?_
        rw [List.drop_eq_nil_of_le (by rw [Array.length_toList]; show u.size ≤ pos; omega)]
        rfl
      clear hall hb0
      as_aux_lemma =>
        go_wp2
        go_ret
        exact ⟨rfl, hB _⟩
end Go.Proofs.YtcijdpbocgjeoaaDoor

/-! TEXTS IN THEIR ORDER, byte by byte. -/
namespace Go.Proofs.YtcijdpbocgjeoaaDoor
set_option linter.unusedSimpArgs false
set_option linter.unusedVariables false

def lt (a b : ByteArray) : Bool := Op.bytesLess a.toList b.toList
def cmpB (a b : ByteArray) : Int := Lib.compareBytes a.data.toList b.data.toList
theorem cmp_facts : ∀ a b : List UInt8, (Lib.compareBytes a b < 0 ↔ Op.bytesLess a b = true) ∧ (Lib.compareBytes a b = 0 ↔ a = b)
  | [], [] => by simp [Lib.compareBytes, Op.bytesLess]
  | [], _ :: _ => by simp [Lib.compareBytes, Op.bytesLess]
  | _ :: _, [] => by simp [Lib.compareBytes, Op.bytesLess]
  | a :: xs, b :: ys => by
    have ih := cmp_facts xs ys
    unfold Lib.compareBytes Op.bytesLess
    by_cases h1 : a < b
    · have : a ≠ b := fun e => by subst e; exact UInt8.lt_irrefl _ h1
      simp [h1, this]
    · by_cases h2 : b < a
      · have : a ≠ b := fun e => by subst e; exact UInt8.lt_irrefl _ h2
        simp [h1, h2, this]
      · have h3 : a = b := UInt8.le_antisymm (UInt8.not_lt.1 h2) (UInt8.not_lt.1 h1)
        subst h3
        simp [h1, ih]
theorem cmp_lt (a b : ByteArray) : cmpB a b < 0 ↔ lt a b = true := by
  unfold cmpB lt
  rw [toL, toL]
  exact (cmp_facts _ _).1
theorem cmp_eq0 (a b : ByteArray) : cmpB a b = 0 ↔ a = b := by
  unfold cmpB
  rw [(cmp_facts _ _).2, ← eqs_iff]
  unfold eqs
  rw [toL, toL]
  simp
theorem less_irrefl : ∀ a : List UInt8, Op.bytesLess a a = false
  | [] => rfl
  | a :: xs => by simp [Op.bytesLess, less_irrefl xs, UInt8.lt_irrefl]
theorem less_trans : ∀ a b c : List UInt8, Op.bytesLess a b = true → Op.bytesLess b c = true → Op.bytesLess a c = true
  | _, [], [], _, h => by simp [Op.bytesLess] at h
  | [], [], _ :: _, h, _ => by simp [Op.bytesLess] at h
  | [], _ :: _, [], _, h => by simp [Op.bytesLess] at h
  | [], _ :: _, _ :: _, _, _ => rfl
  | _ :: _, [], _, h, _ => by simp [Op.bytesLess] at h
  | _ :: _, _ :: _, [], _, h => by simp [Op.bytesLess] at h
  | a :: xs, b :: ys, c :: zs, h1, h2 => by
    have ih := less_trans xs ys zs
    simp only [Op.bytesLess] at h1 h2 ⊢
    have hab : a < b ∨ (a = b ∧ Op.bytesLess xs ys = true) := by
      by_cases h : a < b
      · exact .inl h
      · right
        by_cases h' : a = b
        · subst h'; simp [h] at h1; exact ⟨rfl, h1⟩
        · simp [h, h'] at h1
    have hbc : b < c ∨ (b = c ∧ Op.bytesLess ys zs = true) := by
      by_cases h : b < c
      · exact .inl h
      · right
        by_cases h' : b = c
        · subst h'; simp [h] at h2; exact ⟨rfl, h2⟩
        · simp [h, h'] at h2
    rcases hab with h | ⟨rfl, h⟩
    · have : a < c := by
        rcases hbc with k | ⟨rfl, _⟩
        · exact UInt8.lt_trans h k
        · exact h
      simp [this]
    · rcases hbc with k | ⟨rfl, k⟩
      · simp [k]
      · simp [ih h k, UInt8.lt_irrefl]
theorem lt_irrefl (a : ByteArray) : lt a a = false := less_irrefl _
theorem lt_trans {a b c : ByteArray} (h : lt a b = true) (k : lt b c = true) : lt a c = true := less_trans _ _ _ h k
theorem lt_ne {a b : ByteArray} (h : lt a b = true) : a ≠ b := fun e => by subst e; rw [lt_irrefl] at h; cases h
theorem lt_asymm {a b : ByteArray} (h : lt a b = true) : lt b a = false := by
  cases hb : lt b a
  · rfl
  · have := lt_trans h hb; rw [lt_irrefl] at this; cases this
theorem cmp_anti : ∀ a b : List UInt8, 0 < Lib.compareBytes a b → Op.bytesLess b a = true
  | [], [], h => by simp [Lib.compareBytes] at h
  | [], _ :: _, h => by simp [Lib.compareBytes] at h
  | _ :: _, [], _ => rfl
  | a :: xs, b :: ys, h => by
    have ih := cmp_anti xs ys
    unfold Lib.compareBytes at h
    unfold Op.bytesLess
    by_cases h1 : a < b
    · simp [h1] at h
    · by_cases h2 : b < a
      · simp [h2]
      · have h3 : a = b := UInt8.le_antisymm (UInt8.not_lt.1 h2) (UInt8.not_lt.1 h1)
        subst h3
        simp [h1] at h ⊢
        exact ih h
theorem lt_total (a b : ByteArray) : lt a b = true ∨ a = b ∨ lt b a = true := by
  rcases Int.lt_trichotomy (cmpB a b) 0 with h | h | h
  · exact .inl ((cmp_lt a b).1 h)
  · exact .inr (.inl ((cmp_eq0 a b).1 h))
  · refine .inr (.inr ?_)
    unfold lt
    rw [toL, toL]
    exact cmp_anti _ _ h

theorem leq_of {a b : ByteArray} (h : lt a b = false) : (Op.bytesLess b.toList a.toList || b.toList == a.toList) = true := by
  rcases lt_total a b with h1 | h1 | h1
  · rw [h] at h1; cases h1
  · subst h1; simp
  · have : Op.bytesLess b.toList a.toList = true := h1
    simp [this]
theorem leq_not {a b : ByteArray} (h : lt a b = true) : (Op.bytesLess b.toList a.toList || b.toList == a.toList) = false := by
  have h1 : Op.bytesLess b.toList a.toList = false := lt_asymm h
  have h2 : (b.toList == a.toList) = false := eqs_ne (lt_ne h).symm
  rw [h1, h2]; rfl
end Go.Proofs.YtcijdpbocgjeoaaDoor

/-! LABELS, FOR THE STAGES BEHIND THE FOURTH: their numbers, package label's functions and the document's own (donjonref4), as far as the program has them; the lattice in plain words. -/
namespace Go.Proofs.YtcijdpbocgjeoaaDoor
open Go.RowKit
set_option maxRecDepth 8000
set_option linter.unusedSimpArgs false
set_option linter.unusedVariables false

theorem alloc_below (w : World) (o : Obj) : Below w.heap.size w (w.alloc o) := (Below.refl _ _).alloc (Nat.le_refl _) _
/-- A label's four numbers; its value. -/
structure Lab where
  s : Int
  c : Int
  i : Int
  k : Int
abbrev Lab.v (l : Lab) : Value := .agg #[.int .i64 l.s, .int .i64 l.c, .int .i64 l.i, .int .i64 l.k]
def gmax (a b : Int) : Int := if b > a then b else a
def gmin (a b : Int) : Int := if b < a then b else a
def joinL (a b : Lab) : Lab := ⟨gmax a.s b.s, bits .or .i64 a.c b.c, gmin a.i b.i, bits .and .i64 a.k b.k⟩
def meetL (a b : Lab) : Lab := ⟨gmin a.s b.s, bits .and .i64 a.c b.c, gmax a.i b.i, bits .or .i64 a.k b.k⟩
def goodL (l : Lab) : Lab := ⟨l.s % 4, l.c % 256, l.i % 4, l.k % 256⟩
def bottomL : Lab := ⟨0, 0, 3, 255⟩

theorem und : Tryd.prog.underlying 23 = some (.struct (Tryd.prog.fieldsOf 23)) := by kernel_rfl


theorem below3 (w : World) (a b c : Obj) : Below w.heap.size w (((w.alloc a).alloc b).alloc c) :=
  (((Below.refl _ _).alloc (Nat.le_refl _) _).alloc (by simp) _).alloc (by simp; omega) _




def lessL (a b : Lab) : Bool := if (a.s != b.s) = true then decide (a.s < b.s) else if (a.c != b.c) = true then decide (a.c < b.c) else if (a.i != b.i) = true then decide (a.i < b.i) else decide (a.k < b.k)
theorem below2 (w : World) (a b : Obj) : Below w.heap.size w ((w.alloc a).alloc b) := ((Below.refl _ _).alloc (Nat.le_refl _) _).alloc (by simp) _


/-- Labels as structs are compared field by field. -/
def labEq (x y : Lab) : Bool := x.s == y.s && (x.c == y.c && (x.i == y.i && x.k == y.k))
theorem labEq_iff (x y : Lab) : labEq x y = true ↔ x = y := by
  cases x; cases y; simp [labEq]
theorem run_eql_lab (x y : Lab) (w : World) : (binOp .eql 23 x.v y.v).run Tryd.prog w = .ok (.bool (labEq x y)) w := by
  have e : labEq x y = (x.s == y.s && (x.c == y.c && (x.i == y.i && x.k == y.k))) := rfl
  rw [e]
  go_simp
  repeat' split
  all_goals simp_all
theorem run_neq_lab (x y : Lab) (w : World) : (binOp .neq 23 x.v y.v).run Tryd.prog w = .ok (.bool (!labEq x y)) w := by
  have e : labEq x y = (x.s == y.s && (x.c == y.c && (x.i == y.i && x.k == y.k))) := rfl
  rw [e]
  go_simp
  repeat' split
  all_goals simp_all

/-- A label in a block of its own. -/
abbrev Boxed (W : World) (g : Nat) (l : Lab) : Prop := W.cell? ⟨g, 0, none⟩ = some (.int .i64 l.s) ∧ W.cell? ⟨g, 1, none⟩ = some (.int .i64 l.c) ∧ W.cell? ⟨g, 2, none⟩ = some (.int .i64 l.i) ∧ W.cell? ⟨g, 3, none⟩ = some (.int .i64 l.k)
theorem Boxed.keep {W W' : World} {g : Nat} {l : Lab} (h : Boxed W g l) (hb : Below W.heap.size W W') : Boxed W' g l := by
  obtain ⟨a, b, c, d⟩ := h
  have hg := World.block_lt_of_cell? _ _ a
  exact ⟨(hb.cell (p := ⟨g, 0, none⟩) hg).trans a, (hb.cell (p := ⟨g, 1, none⟩) hg).trans b, (hb.cell (p := ⟨g, 2, none⟩) hg).trans c, (hb.cell (p := ⟨g, 3, none⟩) hg).trans d⟩
theorem keep2 {W W' : World} {g g' : Nat} {l l' : Lab} (hb : Below W.heap.size W W') (h : Boxed W g l ∧ Boxed W g' l') : Boxed W' g l ∧ Boxed W' g' l' := ⟨h.1.keep hb, h.2.keep hb⟩
theorem boxed_alloc (w : World) (l : Lab) : Boxed (w.alloc (.cells #[.int .i64 l.s, .int .i64 l.c, .int .i64 l.i, .int .i64 l.k] 23)) w.heap.size l := by
  refine ⟨?_, ?_, ?_, ?_⟩ <;> simp [World.cell?_alloc_at]

def inB (n m : Int) : Bool := decide (0 ≤ n) && decide (n ≤ m)
set_option maxHeartbeats 400000 in
theorem labwithin_any (n m : Int) (w : World) :
    Calls Tryd.prog 27 #[.int .i64 n, .int .i64 m] w fun e w' => e = .returned (.bool (inB n m)) ∧ w' = w := by
  unfold inB
  by_cases h : 0 ≤ n
  · go_enter Tryd.func27, Tryd.ntmps27
    go_wp2
    go_ret
    exact ⟨by simp [h], rfl⟩
  · have h' : decide (0 ≤ n) = false := by simpa using h
    go_enter Tryd.func27, Tryd.ntmps27
    go_wp2
    go_ret
    exact ⟨by simp, rfl⟩



def okL (l : Lab) : Bool := inB l.s 3 && inB l.c 255 && inB l.i 3 && inB l.k 255
def chkL (l : Lab) : Int := if okL l = true then 0 else 1
set_option maxHeartbeats 1000000 in
theorem lcheck_any (l : Lab) (w : World) :
    Calls Tryd.prog 13 #[l.v] w fun e w' => e = .returned (.int .i64 (chkL l)) ∧ Below w.heap.size w w' := by
  have hc := labwithin_any
  cases h0 : inB l.s 3
  · have e : chkL l = 1 := by simp [chkL, okL, h0]
    rw [e]
    go_enter Tryd.func13, Tryd.ntmps13
    go_wp2_with (go_at_call 27; refine (hc _ _ _).mono ?_; rintro e w' ⟨rfl, rfl⟩)
    go_ret
    exact ⟨rfl, (Below.refl _ _).alloc (Nat.le_refl _) _⟩
  cases h1 : inB l.c 255
  · have e : chkL l = 1 := by simp [chkL, okL, h1]
    rw [e]
    go_enter Tryd.func13, Tryd.ntmps13
    go_wp2_with (go_at_call 27; refine (hc _ _ _).mono ?_; rintro e w' ⟨rfl, rfl⟩)
    go_ret
    exact ⟨rfl, (Below.refl _ _).alloc (Nat.le_refl _) _⟩
  cases h2 : inB l.i 3
  · have e : chkL l = 1 := by simp [chkL, okL, h2]
    rw [e]
    go_enter Tryd.func13, Tryd.ntmps13
    go_wp2_with (go_at_call 27; refine (hc _ _ _).mono ?_; rintro e w' ⟨rfl, rfl⟩)
    go_ret
    exact ⟨rfl, (Below.refl _ _).alloc (Nat.le_refl _) _⟩
  cases h3 : inB l.k 255
  · have e : chkL l = 1 := by simp [chkL, okL, h3]
    rw [e]
    go_enter Tryd.func13, Tryd.ntmps13
    go_wp2_with (go_at_call 27; refine (hc _ _ _).mono ?_; rintro e w' ⟨rfl, rfl⟩)
    go_ret
    exact ⟨rfl, (Below.refl _ _).alloc (Nat.le_refl _) _⟩
  have e : chkL l = 0 := by simp [chkL, okL, h0, h1, h2, h3]
  rw [e]
  go_enter Tryd.func13, Tryd.ntmps13
  go_wp2_with (go_at_call 27; refine (hc _ _ _).mono ?_; rintro e w' ⟨rfl, rfl⟩)
  go_ret
  exact ⟨rfl, (Below.refl _ _).alloc (Nat.le_refl _) _⟩
theorem ofInt_nat (a : Nat) (h : a < 9223372036854775808) : (BitVec.ofInt 64 (a : Int)).toNat = a := by
  rw [BitVec.ofInt_natCast, BitVec.toNat_ofNat]; exact Nat.mod_eq_of_lt (by omega)
theorem wrap_small (a : Nat) (h : a < 9223372036854775808) : IntKind.i64.wrap (a : Int) = (a : Int) := by
  rw [IntKind.wrap_i64]; omega
theorem bor (a b : Nat) (ha : a < 256) (hb : b < 256) : bits .or .i64 (a : Int) (b : Int) = ((a ||| b : Nat) : Int) := by
  have hx : a ||| b < 2 ^ 8 := Nat.or_lt_two_pow (by omega) (by omega)
  show IntKind.i64.wrap ((BitVec.ofInt 64 (a : Int) ||| BitVec.ofInt 64 (b : Int)).toNat : Int) = _
  rw [BitVec.toNat_or, ofInt_nat a (by omega), ofInt_nat b (by omega), wrap_small _ (by omega)]
theorem band (a b : Nat) (ha : a < 256) (hb : b < 256) : bits .and .i64 (a : Int) (b : Int) = ((a &&& b : Nat) : Int) := by
  have hx : a &&& b < 2 ^ 8 := Nat.and_lt_two_pow a (by omega)
  show IntKind.i64.wrap ((BitVec.ofInt 64 (a : Int) &&& BitVec.ofInt 64 (b : Int)).toNat : Int) = _
  rw [BitVec.toNat_and, ofInt_nat a (by omega), ofInt_nat b (by omega), wrap_small _ (by omega)]

/-- A label that may be. -/
structure GL (l : Lab) : Prop where
  s0 : 0 ≤ l.s
  s1 : l.s ≤ 3
  c0 : 0 ≤ l.c
  c1 : l.c ≤ 255
  i0 : 0 ≤ l.i
  i1 : l.i ≤ 3
  k0 : 0 ≤ l.k
  k1 : l.k ≤ 255
theorem good_GL (l : Lab) : GL (goodL l) := by
  constructor <;> simp only [goodL] <;> omega
theorem bottom_GL : GL bottomL := by constructor <;> decide
/-- Its numbers as natural ones. -/
theorem GL.nat {l : Lab} (h : GL l) : ∃ s c i k : Nat, l = ⟨s, c, i, k⟩ ∧ s < 4 ∧ c < 256 ∧ i < 4 ∧ k < 256 := by
  obtain ⟨a, b, c, d, e, f, g, i⟩ := h
  obtain ⟨s, hs⟩ := Int.eq_ofNat_of_zero_le a
  obtain ⟨c', hc⟩ := Int.eq_ofNat_of_zero_le c
  obtain ⟨i', hi⟩ := Int.eq_ofNat_of_zero_le e
  obtain ⟨k', hk⟩ := Int.eq_ofNat_of_zero_le g
  refine ⟨s, c', i', k', ?_, by omega, by omega, by omega, by omega⟩
  cases l
  simp_all

/-- Join and meet of natural numbers. -/
structure NL where
  s : Nat
  c : Nat
  i : Nat
  k : Nat
def NL.lab (l : NL) : Lab := ⟨l.s, l.c, l.i, l.k⟩
def NL.ok (l : NL) : Prop := l.s < 4 ∧ l.c < 256 ∧ l.i < 4 ∧ l.k < 256
def NL.join (a b : NL) : NL := ⟨max a.s b.s, a.c ||| b.c, min a.i b.i, a.k &&& b.k⟩
def NL.meet (a b : NL) : NL := ⟨min a.s b.s, a.c &&& b.c, max a.i b.i, a.k ||| b.k⟩
def NL.bot : NL := ⟨0, 0, 3, 255⟩
theorem bot_lab : NL.bot.lab = bottomL := rfl
theorem bot_ok : NL.bot.ok := by simp [NL.bot, NL.ok]
theorem GL.nl {l : Lab} (h : GL l) : ∃ n : NL, l = n.lab ∧ n.ok :=
  let ⟨s, c, i, k, e, h1, h2, h3, h4⟩ := h.nat
  ⟨⟨s, c, i, k⟩, e, h1, h2, h3, h4⟩
theorem gmax_nat (a b : Nat) : gmax (a : Int) (b : Int) = ((max a b : Nat) : Int) := by unfold gmax; split <;> omega
theorem gmin_nat (a b : Nat) : gmin (a : Int) (b : Int) = ((min a b : Nat) : Int) := by unfold gmin; split <;> omega
theorem join_lab {a b : NL} (ha : a.ok) (hb : b.ok) : joinL a.lab b.lab = (a.join b).lab := by
  simp only [joinL, NL.lab, NL.join, gmax_nat, gmin_nat, bor _ _ ha.2.1 hb.2.1, band _ _ ha.2.2.2 hb.2.2.2]
theorem meet_lab {a b : NL} (ha : a.ok) (hb : b.ok) : meetL a.lab b.lab = (a.meet b).lab := by
  simp only [meetL, NL.lab, NL.meet, gmax_nat, gmin_nat, bor _ _ ha.2.2.2 hb.2.2.2, band _ _ ha.2.1 hb.2.1]
theorem lab_inj {a b : NL} : a.lab = b.lab ↔ a = b := by
  cases a; cases b; simp only [NL.lab, Lab.mk.injEq, NL.mk.injEq]; omega
theorem join_ok {a b : NL} (ha : a.ok) (hb : b.ok) : (a.join b).ok := by
  obtain ⟨a1, a2, a3, a4⟩ := ha
  obtain ⟨b1, b2, b3, b4⟩ := hb
  refine ⟨by simp only [NL.join]; omega, Nat.or_lt_two_pow (n := 8) a2 b2, by simp only [NL.join]; omega, Nat.and_lt_two_pow (n := 8) _ b4⟩
theorem meet_ok {a b : NL} (ha : a.ok) (hb : b.ok) : (a.meet b).ok := by
  obtain ⟨a1, a2, a3, a4⟩ := ha
  obtain ⟨b1, b2, b3, b4⟩ := hb
  refine ⟨by simp only [NL.meet]; omega, Nat.and_lt_two_pow (n := 8) _ b2, by simp only [NL.meet]; omega, Nat.or_lt_two_pow (n := 8) a4 b4⟩
theorem lab_GL {a : NL} (h : a.ok) : GL a.lab := by
  obtain ⟨a1, a2, a3, a4⟩ := h
  constructor <;> simp only [NL.lab] <;> omega
/-- a is over b. -/
def NL.over (a b : NL) : Prop := a.join b = a
theorem over_iff {a b : NL} : a.over b ↔ b.s ≤ a.s ∧ a.c ||| b.c = a.c ∧ a.i ≤ b.i ∧ a.k &&& b.k = a.k := by
  cases a; cases b; simp only [NL.over, NL.join, NL.mk.injEq]; omega
theorem or_and (a b : Nat) : a ||| b = a ↔ a &&& b = b := by
  constructor
  · intro h; rw [← h]; apply Nat.eq_of_testBit_eq; intro i; cases ha : a.testBit i <;> cases hb : b.testBit i <;> simp [ha, hb]
  · intro h; rw [← h]; apply Nat.eq_of_testBit_eq; intro i; cases ha : a.testBit i <;> cases hb : b.testBit i <;> simp [ha, hb]
theorem join_comm (a b : NL) : a.join b = b.join a := by simp only [NL.join, NL.mk.injEq]; exact ⟨Nat.max_comm _ _, Nat.or_comm _ _, Nat.min_comm _ _, Nat.and_comm _ _⟩
theorem meet_comm (a b : NL) : a.meet b = b.meet a := by simp only [NL.meet, NL.mk.injEq]; exact ⟨Nat.min_comm _ _, Nat.and_comm _ _, Nat.max_comm _ _, Nat.or_comm _ _⟩
theorem join_assoc (a b c : NL) : (a.join b).join c = a.join (b.join c) := by simp only [NL.join, NL.mk.injEq]; exact ⟨Nat.max_assoc _ _ _, Nat.or_assoc _ _ _, Nat.min_assoc _ _ _, Nat.and_assoc _ _ _⟩
theorem meet_assoc (a b c : NL) : (a.meet b).meet c = a.meet (b.meet c) := by simp only [NL.meet, NL.mk.injEq]; exact ⟨Nat.min_assoc _ _ _, Nat.and_assoc _ _ _, Nat.max_assoc _ _ _, Nat.or_assoc _ _ _⟩
theorem join_self (a : NL) : a.join a = a := by cases a; simp [NL.join]
theorem meet_self (a : NL) : a.meet a = a := by cases a; simp [NL.meet]
theorem over_refl (a : NL) : a.over a := join_self a
theorem over_antisymm {a b : NL} (h : a.over b) (k : b.over a) : a = b := by rw [← h, join_comm]; exact k
theorem over_trans {a b c : NL} (h : a.over b) (k : b.over c) : a.over c := by
  unfold NL.over at *; rw [← h, join_assoc, k]
theorem and_255 {a : Nat} (h : a < 256) : a &&& 255 = a := by
  rw [show 255 = 2 ^ 8 - 1 from rfl, Nat.and_two_pow_sub_one_eq_mod]; exact Nat.mod_eq_of_lt h
theorem or_255 {a : Nat} (h : a < 256) : a ||| 255 = 255 := by
  rw [Nat.or_comm, (or_and 255 a)]; rw [Nat.and_comm]; exact and_255 h
theorem over_bot {a : NL} (h : a.ok) : a.over NL.bot := by
  obtain ⟨a1, a2, a3, a4⟩ := h
  refine over_iff.2 ⟨Nat.zero_le _, by simp [NL.bot], by simp only [NL.bot]; omega, and_255 a4⟩
theorem meet_bot {a : NL} (h : a.ok) : a.meet NL.bot = NL.bot := by
  obtain ⟨a1, a2, a3, a4⟩ := h
  cases a
  simp only [NL.meet, NL.bot, NL.mk.injEq] at *
  exact ⟨by omega, by simp, by omega, or_255 a4⟩
theorem join_meet (a b : NL) : a.join (a.meet b) = a := by
  cases a; cases b
  simp only [NL.join, NL.meet, NL.mk.injEq]
  refine ⟨by omega, ?_, by omega, ?_⟩ <;> apply Nat.eq_of_testBit_eq <;> intro i <;> simp <;> intro h <;> simp [h]
theorem meet_join (a b : NL) : a.meet (a.join b) = a := by
  cases a; cases b
  simp only [NL.join, NL.meet, NL.mk.injEq]
  refine ⟨by omega, ?_, by omega, ?_⟩ <;> apply Nat.eq_of_testBit_eq <;> intro i <;> simp <;> intro h <;> simp [h]
theorem over_meet {a b : NL} : a.over b ↔ a.meet b = b := by
  cases a; cases b
  simp only [NL.over, NL.join, NL.meet, NL.mk.injEq]
  rw [or_and]
  have := or_and
  constructor
  · rintro ⟨h1, h2, h3, h4⟩; exact ⟨by omega, h2, by omega, by rw [Nat.or_comm, or_and, Nat.and_comm]; exact h4⟩
  · rintro ⟨h1, h2, h3, h4⟩; exact ⟨by omega, h2, by omega, by rw [Nat.or_comm, or_and, Nat.and_comm] at h4; exact h4⟩
/-- What the program's Over tells. -/
def ov (a b : Lab) : Bool := labEq (joinL a b) a
theorem ov_iff {a b : NL} (ha : a.ok) (hb : b.ok) : ov a.lab b.lab = true ↔ a.over b := by
  unfold ov; rw [labEq_iff, join_lab ha hb, lab_inj]; rfl
/-- The document's Over of four numbers. -/
def rov (a b : Lab) : Bool := decide (a.s ≥ b.s) && (bits .and .i64 a.c b.c == b.c) && decide (a.i ≤ b.i) && (bits .and .i64 a.k b.k == a.k)
def b8 (l : Lab) : List Bool := [decide (l.s < 0), decide (l.s > 3), decide (l.i < 0), decide (l.i > 3), decide (l.c < 0), decide (l.c > 255), decide (l.k < 0), decide (l.k > 255)]
theorem chk_b8 (l : Lab) : chkL l = if (b8 l).any id = true then 1 else 0 := by
  unfold chkL okL inB b8
  simp only [List.any_cons, List.any_nil, id, Bool.or_eq_true, Bool.or_false, decide_eq_true_eq, Bool.and_eq_true]
  split <;> split <;> omega
set_option maxHeartbeats 4000000 in
theorem rlcheck_any (l : Lab) (w : World) :
    Calls Tryd.prog 18 #[l.v] w fun e w' => e = .returned (.int .i64 (chkL l)) ∧ Below w.heap.size w w' := by
  rw [chk_b8]
  unfold b8
  cases h0 : decide (l.s < 0)
  case true =>
    simp only [h0, List.any_cons, List.any_nil, id, Bool.or_true, Bool.true_or, Bool.or_false, Bool.false_or, if_true]
    go_enter Tryd.func18, Tryd.ntmps18
    go_wp2
    go_ret
    exact ⟨rfl, alloc_below _ _⟩
  cases h1 : decide (l.s > 3)
  case true =>
    simp only [h0, h1, List.any_cons, List.any_nil, id, Bool.or_true, Bool.true_or, Bool.or_false, Bool.false_or, if_true]
    go_enter Tryd.func18, Tryd.ntmps18
    go_wp2
    go_ret
    exact ⟨rfl, alloc_below _ _⟩
  cases h2 : decide (l.i < 0)
  case true =>
    simp only [h0, h1, h2, List.any_cons, List.any_nil, id, Bool.or_true, Bool.true_or, Bool.or_false, Bool.false_or, if_true]
    go_enter Tryd.func18, Tryd.ntmps18
    go_wp2
    go_ret
    exact ⟨rfl, alloc_below _ _⟩
  cases h3 : decide (l.i > 3)
  case true =>
    simp only [h0, h1, h2, h3, List.any_cons, List.any_nil, id, Bool.or_true, Bool.true_or, Bool.or_false, Bool.false_or, if_true]
    go_enter Tryd.func18, Tryd.ntmps18
    go_wp2
    go_ret
    exact ⟨rfl, alloc_below _ _⟩
  cases h4 : decide (l.c < 0)
  case true =>
    simp only [h0, h1, h2, h3, h4, List.any_cons, List.any_nil, id, Bool.or_true, Bool.true_or, Bool.or_false, Bool.false_or, if_true]
    go_enter Tryd.func18, Tryd.ntmps18
    go_wp2
    go_ret
    exact ⟨rfl, alloc_below _ _⟩
  cases h5 : decide (l.c > 255)
  case true =>
    simp only [h0, h1, h2, h3, h4, h5, List.any_cons, List.any_nil, id, Bool.or_true, Bool.true_or, Bool.or_false, Bool.false_or, if_true]
    go_enter Tryd.func18, Tryd.ntmps18
    go_wp2
    go_ret
    exact ⟨rfl, alloc_below _ _⟩
  cases h6 : decide (l.k < 0)
  case true =>
    simp only [h0, h1, h2, h3, h4, h5, h6, List.any_cons, List.any_nil, id, Bool.or_true, Bool.true_or, Bool.or_false, Bool.false_or, if_true]
    go_enter Tryd.func18, Tryd.ntmps18
    go_wp2
    go_ret
    exact ⟨rfl, alloc_below _ _⟩
  cases h7 : decide (l.k > 255)
  case true =>
    simp only [h0, h1, h2, h3, h4, h5, h6, h7, List.any_cons, List.any_nil, id, Bool.or_true, Bool.true_or, Bool.or_false, Bool.false_or, if_true]
    go_enter Tryd.func18, Tryd.ntmps18
    go_wp2
    go_ret
    exact ⟨rfl, alloc_below _ _⟩
  simp only [h0, h1, h2, h3, h4, h5, h6, h7, List.any_cons, List.any_nil, id, Bool.or_false, Bool.false_or, Bool.false_eq_true, if_false]
  go_enter Tryd.func18, Tryd.ntmps18
  go_wp2
  go_ret
  exact ⟨rfl, alloc_below _ _⟩
/-- The document's Over is the program's. -/
theorem rov_ov {A B : NL} (okA : A.ok) (okB : B.ok) : rov A.lab B.lab = ov A.lab B.lab := by
  rw [Bool.eq_iff_iff, ov_iff okA okB, over_iff, or_and]
  unfold rov NL.lab
  simp only [band _ _ okA.2.1 okB.2.1, band _ _ okA.2.2.2 okB.2.2.2, Bool.and_eq_true, decide_eq_true_eq, beq_iff_eq]
  omega
end Go.Proofs.YtcijdpbocgjeoaaDoor

/-! GRANTS, AND WHERE THEIR ROWS LIE. For every stage behind the fifth. -/
namespace Go.Proofs.YtcijdpbocgjeoaaDoor
open Go.RowKit
set_option maxRecDepth 8000
set_option linter.unusedSimpArgs false
set_option linter.unusedVariables false

structure Gr where
  u : ByteArray
  m : Int
abbrev Gr.v (g : Gr) : Value := .agg #[.string g.u, .int .i64 g.m]
abbrev zGr : Gr := ⟨⟨#[]⟩, 0⟩
def GrsAt (W : World) (a : Option Addr) (l : List Gr) : Prop := ∀ j q, l[j]? = some q → ∃ y, a = some y ∧ W.cell? (y.add (j * 2)) = some (.string q.u) ∧ W.cell? ⟨(y.add (j * 2)).block, (y.add (j * 2)).off + 1, none⟩ = some (.int .i64 q.m)
theorem GrsAt.below {W W' : World} {a : Option Addr} {l : List Gr} (h : GrsAt W a l) (b : Below W.heap.size W W') : GrsAt W' a l := fun j q hq => by
  obtain ⟨y, hy, h1, h2⟩ := h j q hq
  exact ⟨y, hy, (b.cell (World.block_lt_of_cell? _ _ h1)).trans h1, (b.cell (p := ⟨(y.add (j * 2)).block, _, none⟩) (World.block_lt_of_cell? _ _ h2)).trans h2⟩
end Go.Proofs.YtcijdpbocgjeoaaDoor

/-! LISTS OF GRANTS, as plain data: users in order, what Check, Modes and Set answer of them. -/
namespace Go.Proofs.YtcijdpbocgjeoaaDoor
def star : ByteArray := ⟨#[42]⟩

def may (u : ByteArray) : Bool := eqs u star || name u
theorem lt_empty {u : ByteArray} (h : may u = true) : lt ⟨#[]⟩ u = true := by
  unfold lt
  rw [toL, toL]
  cases hu : u.data.toList with
  | cons c r => rfl
  | nil =>
    exfalso
    simp only [may, Bool.or_eq_true, name, Bool.and_eq_true, decide_eq_true_eq] at h
    rcases h with h | h
    · rw [eqs_iff] at h; subst h; cases hu
    · have : u.size = 0 := by
        show u.data.size = 0
        rw [← Array.length_toList, hu]
        rfl
      omega

/-- Is a list in order behind a? -/
def okAcl (a : ByteArray) : List Gr → Bool
  | [] => true
  | g :: r => (may g.u && (lt a g.u && (decide (1 ≤ g.m) && decide (g.m ≤ 7)))) && okAcl g.u r
def chkA (l : List Gr) : Int := if 4 < l.length then 4 else if okAcl ⟨#[]⟩ l = true then 0 else 1
def aheadAt (l : List Gr) : Nat → ByteArray
  | 0 => ⟨#[]⟩
  | i + 1 => (l.getD i zGr).u
def Sorted (l : List Gr) : Prop := l.Pairwise fun a b => lt a.u b.u = true
theorem okL_sorted : ∀ (l : List Gr) (a : ByteArray), okAcl a l = true → Sorted l ∧ ∀ g ∈ l, lt a g.u = true
  | [], a, _ => ⟨List.Pairwise.nil, by simp⟩
  | g :: r, a, h => by
    simp only [okAcl, Bool.and_eq_true] at h
    obtain ⟨⟨_, h2, _⟩, h3⟩ := h
    obtain ⟨s, hs⟩ := okL_sorted r g.u h3
    refine ⟨List.Pairwise.cons hs s, fun x hx => ?_⟩
    rcases List.mem_cons.1 hx with rfl | hx
    · exact h2
    · exact lt_trans h2 (hs x hx)
theorem okL_all : ∀ (l : List Gr) (a : ByteArray), okAcl a l = true → ∀ g ∈ l, may g.u = true ∧ 1 ≤ g.m ∧ g.m ≤ 7
  | [], _, _ => by simp
  | g :: r, a, h => by
    simp only [okAcl, Bool.and_eq_true, decide_eq_true_eq] at h
    obtain ⟨⟨h1, h2, h4, h5⟩, h3⟩ := h
    intro x hx
    rcases List.mem_cons.1 hx with rfl | hx
    · exact ⟨h1, h4, h5⟩
    · exact okL_all r g.u h3 x hx
theorem okL_of : ∀ (l : List Gr) (a : ByteArray), Sorted l → (∀ g ∈ l, lt a g.u = true) → (∀ g ∈ l, may g.u = true ∧ 1 ≤ g.m ∧ g.m ≤ 7) → okAcl a l = true
  | [], _, _, _, _ => rfl
  | g :: r, a, hs, h1, h2 => by
    have hp := List.pairwise_cons.1 hs
    obtain ⟨m1, m2, m3⟩ := h2 g (by simp)
    simp [okAcl, m1, m2, m3, h1 g (by simp), okL_of r g.u hp.2 hp.1 (fun x hx => h2 x (by simp [hx]))]
/-- What may be. -/
structure Good (l : List Gr) : Prop where
  len : l.length ≤ 4
  ord : Sorted l
  all : ∀ g ∈ l, may g.u = true ∧ 1 ≤ g.m ∧ g.m ≤ 7
theorem chk_good {l : List Gr} : chkA l = 0 ↔ Good l := by
  unfold chkA
  constructor
  · intro h
    split at h
    · cases h
    · split at h
      · rename_i h1 h2
        exact ⟨by omega, (okL_sorted _ _ h2).1, okL_all _ _ h2⟩
      · cases h
  · intro h
    rw [if_neg (by have := h.len; omega), if_pos (okL_of _ _ h.ord (fun g hg => lt_empty (h.all g hg).1) h.all)]

/-- A list about a user. -/
structure Parts (l : List Gr) (u : ByteArray) (A M B : List Gr) : Prop where
  eq : l = A ++ (M ++ B)
  ahead : ∀ g ∈ A, lt g.u u = true
  behind : ∀ g ∈ B, lt u g.u = true
  mid : M = [] ∨ ∃ m, M = [⟨u, m⟩]
theorem parts_of : ∀ (l : List Gr) (u : ByteArray), Sorted l → ∃ A M B, Parts l u A M B
  | [], u, _ => ⟨[], [], [], rfl, by simp, by simp, .inl rfl⟩
  | g :: r, u, hs => by
    have hp := List.pairwise_cons.1 hs
    rcases lt_total g.u u with h | h | h
    · obtain ⟨A, M, B, p⟩ := parts_of r u hp.2
      refine ⟨g :: A, M, B, by rw [p.eq]; rfl, fun x hx => ?_, p.behind, p.mid⟩
      rcases List.mem_cons.1 hx with rfl | hx
      · exact h
      · exact p.ahead x hx
    · refine ⟨[], [g], r, rfl, by simp, fun x hx => by rw [← h]; exact hp.1 x hx, .inr ⟨g.m, by rw [← h]⟩⟩
    · refine ⟨[], [], g :: r, rfl, by simp, fun x hx => ?_, .inl rfl⟩
      rcases List.mem_cons.1 hx with rfl | hx
      · exact h
      · exact lt_trans h (hp.1 x hx)
/-- A user's own modes, if any; the modes. -/
def look (l : List Gr) (u : ByteArray) : Option Int := (l.find? fun g => eqs g.u u).map (·.m)
def modesL (l : List Gr) (u : ByteArray) : Int := (look l u).getD ((look l star).getD 0)
theorem look_none {l : List Gr} {u : ByteArray} (h : ∀ g ∈ l, g.u ≠ u) : look l u = none := by
  unfold look
  rw [List.find?_eq_none.2 (fun g hg => by simp [eqs_ne (h g hg)])]
  rfl
theorem look_append (a b : List Gr) (u : ByteArray) : look (a ++ b) u = (look a u).or (look b u) := by
  unfold look
  rw [List.find?_append]
  cases List.find? (fun g => eqs g.u u) a <;> simp
theorem look_one (u : ByteArray) (m : Int) : look [⟨u, m⟩] u = some m := by simp [look, eqs_self]
theorem look_cons (g : Gr) (r : List Gr) (u : ByteArray) : look (g :: r) u = if eqs g.u u = true then some g.m else look r u := by
  unfold look
  rw [List.find?_cons]
  cases eqs g.u u <;> simp
section
variable {l A M B : List Gr} {u : ByteArray}
theorem Parts.noA (p : Parts l u A M B) : look A u = none := look_none fun g hg => lt_ne (p.ahead g hg)
theorem Parts.noB (p : Parts l u A M B) : look B u = none := look_none fun g hg => (lt_ne (p.behind g hg)).symm
theorem Parts.look (p : Parts l u A M B) : look l u = look M u := by
  rw [p.eq, look_append, look_append, p.noA, p.noB]
  simp
theorem Parts.other (p : Parts l u A M B) {x : ByteArray} (hx : x ≠ u) (N : List Gr) (hN : N = [] ∨ ∃ m, N = [⟨u, m⟩]) : Go.Proofs.YtcijdpbocgjeoaaDoor.look (A ++ (N ++ B)) x = Go.Proofs.YtcijdpbocgjeoaaDoor.look l x := by
  have one : ∀ m, Go.Proofs.YtcijdpbocgjeoaaDoor.look [⟨u, m⟩] x = none := fun m => look_none (by simp; exact fun e => hx e.symm)
  rw [p.eq, look_append, look_append, look_append, look_append]
  have h1 : ∀ N : List Gr, (N = [] ∨ ∃ m, N = [⟨u, m⟩]) → Go.Proofs.YtcijdpbocgjeoaaDoor.look N x = none := by
    rintro N (rfl | ⟨m, rfl⟩)
    · rfl
    · exact one m
  rw [h1 N hN, h1 M p.mid]
/-- Another grant there keeps order. -/
theorem Parts.sorted (p : Parts l u A M B) (hs : Sorted l) (N : List Gr) (hN : N = [] ∨ ∃ m, N = [⟨u, m⟩]) : Sorted (A ++ (N ++ B)) := by
  have h := hs
  unfold Sorted at h ⊢
  rw [p.eq] at h
  have hA := (List.pairwise_append.1 h).1
  have hMB := (List.pairwise_append.1 h).2.1
  have hB := (List.pairwise_append.1 hMB).2.1
  refine List.pairwise_append.2 ⟨hA, List.pairwise_append.2 ⟨?_, hB, ?_⟩, ?_⟩
  · rcases hN with rfl | ⟨m, rfl⟩
    · exact List.Pairwise.nil
    · exact List.pairwise_singleton _ _
  · rcases hN with rfl | ⟨m, rfl⟩
    · simp
    · intro a ha b hb
      simp at ha
      subst ha
      exact p.behind b hb
  · intro a ha b hb
    rcases List.mem_append.1 hb with hb | hb
    · rcases hN with rfl | ⟨m, rfl⟩
      · cases hb
      · simp at hb
        subst hb
        exact p.ahead a ha
    · exact lt_trans (p.ahead a ha) (p.behind b hb)
end

/-- What Set answers. -/
def setE (A M B : List Gr) (u : ByteArray) (m : Int) : Int :=
  if (!may u || decide (m < 0) || decide (7 < m)) = true then 1
  else if m = 0 then (if M = [] then 2 else 0)
  else if 4 < A.length + 1 + B.length then 4 else 0
def setL (A M B : List Gr) (u : ByteArray) (m : Int) : List Gr :=
  if setE A M B u m = 0 then A ++ ((if m = 0 then [] else [⟨u, m⟩]) ++ B) else []
theorem Parts.good {l A M B : List Gr} {u : ByteArray} {m : Int} (p : Parts l u A M B) (g : Good l) (h : setE A M B u m = 0) : Good (setL A M B u m) := by
  unfold setL
  rw [if_pos h]
  unfold setE at h
  split at h
  · cases h
  · rename_i h1
    simp only [Bool.or_eq_true, Bool.not_eq_true', decide_eq_true_eq, not_or, Bool.not_eq_false] at h1
    have hN : (if m = 0 then ([] : List Gr) else [⟨u, m⟩]) = [] ∨ ∃ m', (if m = 0 then ([] : List Gr) else [⟨u, m⟩]) = [⟨u, m'⟩] := by
      split
      · exact .inl rfl
      · exact .inr ⟨m, rfl⟩
    refine ⟨?_, p.sorted g.ord _ hN, ?_⟩
    · have hl := g.len
      rw [p.eq] at hl
      simp only [List.length_append] at hl ⊢
      split at h
      · rename_i h0
        rw [if_pos h0]
        simp; omega
      · rename_i h0
        rw [if_neg h0]
        split at h
        · cases h
        · simp; omega
    · intro x hx
      have hall := g.all
      rw [p.eq] at hall
      rcases List.mem_append.1 hx with hx | hx
      · exact hall x (by simp [hx])
      · rcases List.mem_append.1 hx with hx | hx
        · split at hx
          · cases hx
          · rename_i h0
            simp at hx
            subst hx
            exact ⟨h1.1.1, by show 1 ≤ m; omega, by show m ≤ 7; omega⟩
        · exact hall x (by simp [hx])
end Go.Proofs.YtcijdpbocgjeoaaDoor

/-! LISTS OF GRANTS IN MEMORY, and the search for a user's place: acl.find, slices.BinarySearchFunc, strings.Compare. -/
namespace Go.Proofs.YtcijdpbocgjeoaaDoor
open Go.RowKit
set_option maxRecDepth 8000

/-- A list's grants lie there. -/
def GAt (w : World) (a : Option Addr) (l : List Gr) : Prop :=
  ∀ j g, l[j]? = some g → ∃ x, a = some x ∧ w.cell? (x.add (j * 2)) = some (.string g.u) ∧ w.cell? ⟨(x.add (j * 2)).block, (x.add (j * 2)).off + 1, none⟩ = some (.int .i64 g.m)
theorem GAt.below {w w' : World} {a : Option Addr} {l : List Gr} (h : GAt w a l) (b : Below w.heap.size w w') : GAt w' a l := by
  intro j g hg
  obtain ⟨x, hx, h1, h2⟩ := h j g hg
  exact ⟨x, hx, (b.cell (World.block_lt_of_cell? _ _ h1)).trans h1, (b.cell (World.block_lt_of_cell? _ _ h2)).trans h2⟩
theorem GAt.drew {w : World} {a : Option Addr} {l : List Gr} (h : GAt w a l) : GAt w.drew a l := h
end Go.Proofs.YtcijdpbocgjeoaaDoor

/-! NAMES: acl.isName, acl.mayHave, and the document's own. -/
namespace Go.Proofs.YtcijdpbocgjeoaaDoor
open Go.RowKit
set_option maxRecDepth 8000
set_option maxHeartbeats 2000000 in
theorem isName_any (u : ByteArray) (w : World) :
    Calls Tryd.prog 36 #[.string u] w fun e w' => e = .returned (.bool (name u)) ∧ w' = w := by
  by_cases h1 : 1 ≤ u.size
  · by_cases h2 : u.size ≤ 12
    · have e : name u = (u.data.toList.drop 0).all okB := by simp [name, h1, h2]
      rw [e]
      clear e
      obtain ⟨b, hb⟩ : ∃ b, (u.data.toList.drop 0).all okB = b := ⟨_, rfl⟩
      rw [hb]
      go_enter Tryd.func36, Tryd.ntmps36
      go_wp2
      go_loopw [15] (fun t wr => ∃ i : Nat, i ≤ u.size ∧ t = .int .i64 (i : Int) ∧ wr = w ∧ b = (u.data.toList.drop i).all okB) (fun t _ => u.size - (Go.RowKit.intOf t).toNat)
      case atStart => exact ⟨0, by omega, rfl, rfl, hb.symm⟩
      case round =>
        obtain ⟨i, hi, rfl, rfl, hall⟩ := hrel
        by_cases hlt : i < u.size
        · have hd := all_drop hlt
          obtain ⟨k, hk⟩ : ∃ k : Nat, (u[i]'hlt).toNat = k := ⟨_, rfl⟩
          rw [okB, hk] at hd
          by_cases hok : (97 ≤ k ∧ k ≤ 122) ∨ (48 ≤ k ∧ k ≤ 57)
          · have hn : Aside (b = (u.data.toList.drop (i + 1)).all okB) := by
              refine (hall.trans hd).trans ?_
              rcases hok with ⟨h, h'⟩ | ⟨h, h'⟩ <;> simp [h, h']
            clear hall hd
            rcases hok with ⟨h3, h4⟩ | ⟨h3, h4⟩
            · go_wp2
              exact ⟨⟨i + 1, by omega, by simp, trivial, hn.out⟩, by simp [Go.RowKit.intOf]; omega⟩
            · go_wp2
              exact ⟨⟨i + 1, by omega, by simp, trivial, hn.out⟩, by simp [Go.RowKit.intOf]; omega⟩
          · obtain rfl : b = false := by
              refine (hall.trans hd).trans ?_
              rw [Bool.and_eq_false_iff]
              left
              simp only [Bool.or_eq_false_iff, Bool.and_eq_false_iff, decide_eq_false_iff_not]
              omega
            clear hall hd hb
            by_cases h3 : k < 97
            · by_cases h4 : k < 48
              · go_wp2
                go_ret
                exact ⟨rfl, rfl⟩
              · have h5 : 57 < k := by omega
                go_wp2
                go_ret
                exact ⟨rfl, rfl⟩
            · have h5 : 122 < k := by omega
              go_wp2
              go_ret
              exact ⟨rfl, rfl⟩
        · go_wp2
          go_ret
          exact ⟨by rw [hall, List.drop_eq_nil_of_le (by rw [Array.length_toList]; show u.size ≤ i; omega)]; rfl, rfl⟩
    · have e : name u = false := by simp [name, h2]
      rw [e]
      go_enter Tryd.func36, Tryd.ntmps36
      go_wp2
      go_ret
      exact ⟨rfl, rfl⟩
  · have e : name u = false := by simp [name, h1]
    rw [e]
    go_enter Tryd.func36, Tryd.ntmps36
    go_wp2
    go_ret
    exact ⟨rfl, rfl⟩
set_option maxHeartbeats 2000000 in
theorem arname_any (u : ByteArray) (hu : u.size ≤ 9223372036854775807) (w : World) :
    Calls Tryd.prog 37 #[.string u] w fun e w' => e = .returned (.bool (name u)) ∧ w' = w := by
  obtain ⟨b, hb⟩ : ∃ b, name u = b := ⟨_, rfl⟩
  rw [hb]
  have hb0 : Aside (b = (decide (1 ≤ u.size) && (decide (u.size ≤ 12) && (u.data.toList.drop 0).all okB))) := by rw [Aside, ← hb]; rfl
  clear hb
  go_enter Tryd.func37, Tryd.ntmps37
  go_wp2
  go_loopw [3] (fun t wr => ∃ i : Nat, i ≤ u.size ∧ t = .int .i64 (i : Int) ∧ wr = w ∧ Aside (b = (decide (1 ≤ u.size) && (decide (u.size ≤ 12) && (u.data.toList.drop i).all okB)))) (fun t _ => u.size - (Go.RowKit.intOf t).toNat)
  case atStart => exact ⟨0, by omega, rfl, rfl, hb0⟩
  case round =>
    obtain ⟨i, hi, rfl, rfl, hall⟩ := hrel
    by_cases hlt : i < u.size
    · have hd := all_drop hlt
      obtain ⟨k, hk⟩ : ∃ k : Nat, (u[i]'hlt).toNat = k := ⟨_, rfl⟩
      rw [okB, hk] at hd
      by_cases hok : (97 ≤ k ∧ k ≤ 122) ∨ (48 ≤ k ∧ k ≤ 57)
      · have hn : Aside (b = (decide (1 ≤ u.size) && (decide (u.size ≤ 12) && (u.data.toList.drop (i + 1)).all okB))) := by
          refine hall.out.trans ?_
          rw [hd]
          rcases hok with ⟨h, h'⟩ | ⟨h, h'⟩ <;> simp [h, h']
        clear hall hd
        rcases hok with ⟨h3, h4⟩ | ⟨h3, h4⟩
        · go_wp2
          exact ⟨⟨i + 1, by omega, by simp, trivial, hn⟩, by simp [Go.RowKit.intOf]; omega⟩
        · go_wp2
          exact ⟨⟨i + 1, by omega, by simp, trivial, hn⟩, by simp [Go.RowKit.intOf]; omega⟩
      · obtain rfl : b = false := by
          refine hall.out.trans ?_
          rw [hd]
          rw [Bool.and_eq_false_iff]
          right
          rw [Bool.and_eq_false_iff]
          right
          rw [Bool.and_eq_false_iff]
          left
          simp only [Bool.or_eq_false_iff, Bool.and_eq_false_iff, decide_eq_false_iff_not]
          omega
        clear hall hd hb0
        by_cases h3 : k < 97
        · by_cases h4 : k < 48
          · go_wp2
            go_ret
            exact ⟨rfl, rfl⟩
          · have h5 : 57 < k := by omega
            go_wp2
            go_ret
            exact ⟨rfl, rfl⟩
        · have h5 : 122 < k := by omega
          go_wp2
          go_ret
          exact ⟨rfl, rfl⟩
    · have he : Aside (b = (decide (1 ≤ u.size) && decide (u.size ≤ 12))) := by
        refine hall.out.trans ?_
        rw [List.drop_eq_nil_of_le (by rw [Array.length_toList]; show u.size ≤ i; omega)]
        simp
      clear hall hb0
      by_cases h1 : 1 ≤ u.size
      · by_cases h2 : u.size ≤ 12
        · obtain rfl : b = true := by rw [he.out]; simp [h1, h2]
          go_wp2
          go_ret
          exact ⟨by simp; omega, rfl⟩
        · obtain rfl : b = false := by rw [he.out]; simp [h2]
          go_wp2
          go_ret
          exact ⟨by simp; omega, rfl⟩
      · obtain rfl : b = false := by rw [he.out]; simp [h1]
        go_wp2
        go_ret
        exact ⟨by simp; try omega, rfl⟩
theorem star_yes {u : ByteArray} (h : eqs u star = true) : u.toList = [42] := by
  rw [eqs_iff.1 h, toL]; rfl
theorem star_no {u : ByteArray} (h : eqs u star = false) : ¬ u.toList = [42] := fun e => by
  have : star.toList = [42] := by rw [toL]; rfl
  unfold eqs at h
  rw [e, this] at h
  cases h
set_option maxHeartbeats 1000000 in
theorem mayHave_any (u : ByteArray) (w : World) :
    Calls Tryd.prog 28 #[.string u] w fun e w' => e = .returned (.bool (may u)) ∧ w' = w := by
  cases h : eqs u star
  · have e : may u = name u := by simp [may, h]
    rw [e]
    clear e
    have h' := star_no h
    go_enter Tryd.func28, Tryd.ntmps28
    go_wp2_with (go_at_call 36; refine (isName_any _ _).mono ?_; rintro e w' ⟨rfl, rfl⟩)
    go_ret
    exact ⟨by simp [h'], rfl⟩
  · have e : may u = true := by simp [may, h]
    rw [e]
    clear e
    have h' := star_yes h
    go_enter Tryd.func28, Tryd.ntmps28
    go_wp2_with (go_at_call 36; refine (isName_any _ _).mono ?_; rintro e w' ⟨rfl, rfl⟩)
    go_ret
    exact ⟨rfl, rfl⟩
set_option maxHeartbeats 1000000 in
theorem who_any (u : ByteArray) (hu : u.size ≤ 9223372036854775807) (w : World) :
    Calls Tryd.prog 32 #[.string u] w fun e w' => e = .returned (.bool (may u)) ∧ w' = w := by
  cases h : eqs u star
  · have e : may u = name u := by simp [may, h]
    rw [e]
    clear e
    have h' := star_no h
    go_enter Tryd.func32, Tryd.ntmps32
    go_wp2_with (go_at_call 37; refine (arname_any _ hu _).mono ?_; rintro e w' ⟨rfl, rfl⟩)
    go_ret
    exact ⟨by simp [h'], rfl⟩
  · have e : may u = true := by simp [may, h]
    rw [e]
    clear e
    have h' := star_yes h
    go_enter Tryd.func32, Tryd.ntmps32
    go_wp2_with (go_at_call 37; refine (arname_any _ hu _).mono ?_; rintro e w' ⟨rfl, rfl⟩)
    go_ret
    exact ⟨rfl, rfl⟩
end Go.Proofs.YtcijdpbocgjeoaaDoor

/-! CHECK: acl.Check, and the document's own. -/
namespace Go.Proofs.YtcijdpbocgjeoaaDoor
open Go.RowKit
set_option maxRecDepth 8000

theorem okAcl_drop (l : List Gr) {i : Nat} {g : Gr} (hg : l[i]? = some g) : okAcl (aheadAt l i) (l.drop i) = ((may g.u && (lt (aheadAt l i) g.u && (decide (1 ≤ g.m) && decide (g.m ≤ 7)))) && okAcl (aheadAt l (i + 1)) (l.drop (i + 1))) := by
  have hi := List.getElem?_eq_some_iff.1 hg
  rw [List.drop_eq_getElem_cons hi.1, hi.2, okAcl]
  have : aheadAt l (i + 1) = g.u := by simp [aheadAt, List.getD, hg]
  rw [this]
theorem okAcl_end (l : List Gr) {i : Nat} (h : l.length ≤ i) (a : ByteArray) : okAcl a (l.drop i) = true := by rw [List.drop_eq_nil_of_le h]; rfl
set_option maxHeartbeats 4000000 in
theorem acheck_any (w : World) (a : Option Addr) (cap : Nat) (l : List Gr) (hG : GAt w a l) :
    Calls Tryd.prog 14 #[.slice a l.length cap] w fun e w' => e = .returned (.int .i64 (chkA l)) ∧ Below w.heap.size w w' := by
  obtain ⟨n, hn⟩ : ∃ n, l.length = n := ⟨_, rfl⟩
  by_cases h4 : 4 < n
  · have e : chkA l = 4 := by simp [chkA, hn, h4]
    rw [e, hn]
    clear e
    go_enter Tryd.func14, Tryd.ntmps14
    go_wp2
    go_ret
    exact ⟨rfl, Below.refl _ _⟩
  · obtain ⟨r, hr⟩ : ∃ r, chkA l = r := ⟨_, rfl⟩
    have hr0 : Aside (r = if okAcl (aheadAt l 0) (l.drop 0) = true then 0 else 1) := by rw [Aside, ← hr]; simp [chkA, hn, h4]; rfl
    rw [hr, hn]
    clear hr
    go_enter Tryd.func14, Tryd.ntmps14
    go_wp2
    go_loopw [11, 3] (fun t s wr => ∃ i : Nat, i ≤ n ∧ t = .int .i64 (i : Int) ∧ s = .string (aheadAt l i) ∧ Below w.heap.size w wr ∧ Aside (r = if okAcl (aheadAt l i) (l.drop i) = true then 0 else 1)) (fun t _ _ => n - (Go.RowKit.intOf t).toNat)
    case atStart => exact ⟨0, by omega, rfl, rfl, Below.refl _ _, hr0⟩
    case round =>
      obtain ⟨i, hi, rfl, rfl, hB, hall⟩ := hrel
      by_cases hlt : i < n
      · obtain ⟨g, hg⟩ : ∃ g, l[i]? = some g := ⟨_, List.getElem?_eq_getElem (by omega)⟩
        obtain ⟨x, rfl, c0, c1⟩ := (hG.below hB) _ _ hg
        have hd := okAcl_drop l hg
        have hBa := Below.then hB (alloc_below wr (.cells #[.string g.u, .int .i64 g.m] 57))
        obtain ⟨ah, hah⟩ : ∃ ah, aheadAt l i = ah := ⟨_, rfl⟩
        have hnx : aheadAt l (i + 1) = g.u := by simp [aheadAt, List.getD, hg]
        rw [hah] at hd hall ⊢
        cases h1 : may g.u
        · obtain rfl : r = 1 := by rw [hall.out, hd, h1]; rfl
          clear hall hd hr0
          go_wp2_with (go_at_call 28; refine (mayHave_any _ _).mono ?_; rw [h1]; rintro e w' ⟨rfl, rfl⟩)
          go_ret
          exact ⟨rfl, hBa⟩
        cases h2 : lt ah g.u
        · obtain rfl : r = 1 := by rw [hall.out, hd, h2]; simp
          have hq := leq_of h2
          clear hall hd hr0
          go_wp2_with (go_at_call 28; refine (mayHave_any _ _).mono ?_; rw [h1]; rintro e w' ⟨rfl, rfl⟩)
          go_ret
          exact ⟨rfl, hBa⟩
        have hq := leq_not h2
        by_cases h3 : g.m < 1
        · obtain rfl : r = 1 := by rw [hall.out, hd, if_neg]; simp; omega
          clear hall hd hr0
          go_wp2_with (go_at_call 28; refine (mayHave_any _ _).mono ?_; rw [h1]; rintro e w' ⟨rfl, rfl⟩)
          go_ret
          exact ⟨rfl, hBa⟩
        by_cases h5 : 7 < g.m
        · obtain rfl : r = 1 := by rw [hall.out, hd, if_neg]; simp; omega
          clear hall hd hr0
          go_wp2_with (go_at_call 28; refine (mayHave_any _ _).mono ?_; rw [h1]; rintro e w' ⟨rfl, rfl⟩)
          go_ret
          exact ⟨rfl, hBa⟩
        have hn2 : Aside (r = if okAcl (aheadAt l (i + 1)) (l.drop (i + 1)) = true then 0 else 1) := by
          have e1 : decide (1 ≤ g.m) = true := by simp; omega
          have e2 : decide (g.m ≤ 7) = true := by simp; omega
          rw [hd, h1, h2, e1, e2] at hall
          simpa using hall
        clear hall hd hr0
        go_wp2_with (go_at_call 28; refine (mayHave_any _ _).mono ?_; rw [h1]; rintro e w' ⟨rfl, rfl⟩)
        exact ⟨⟨i + 1, by omega, by simp, by rw [hnx], hBa, hn2⟩, by simp [Go.RowKit.intOf]; omega⟩
      · obtain rfl : r = 0 := by rw [hall.out, okAcl_end l (by omega)]; rfl
        go_wp2
        go_ret
        exact ⟨rfl, hB⟩
end Go.Proofs.YtcijdpbocgjeoaaDoor
