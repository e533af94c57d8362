/-
  MESSAGES AND RULES (api.Message, api.Rule), and where they lie.
-/
import Derived.Test.YtjpabjmicaopcaaNames
import Derived.Test.YtjpabjmicaopcaaTexts
import Derived.Test.YtjpabjmicaopcaaLabs
import Derived.Test.YtjpabjmicaopcaaHeld
import Derived.Test.YtjpabjmicaopcaaBuild1
import Derived.Test.YtjpabjmicaopcaaTwo
namespace Go.Proofs.Ytjpabjmicaopcaa
open Go.RowKit
set_option maxRecDepth 8000
set_option linter.unusedSimpArgs false
set_option linter.unusedVariables false

structure MRul where
  src : Lab
  dst : Lab
  word : ByteArray
def MRul.cs (x : MRul) : List Value := [.int .i64 x.src.s, .int .i64 x.src.c, .int .i64 x.src.i, .int .i64 x.src.k, .int .i64 x.dst.s, .int .i64 x.dst.c, .int .i64 x.dst.i, .int .i64 x.dst.k, .string x.word]
theorem mr_len (x : MRul) : x.cs.length = 9 := rfl
theorem mr_one (x : MRul) : ∀ v ∈ x.cs, v.oneCell' = true := by
  intro v hv
  unfold MRul.cs at hv
  simp only [List.mem_cons, List.not_mem_nil, or_false] at hv
  rcases hv with rfl | rfl | rfl | rfl | rfl | rfl | rfl | rfl | rfl <;> rfl
theorem mr_ok : ElemOk 29 22 9 MRul.cs :=
  ⟨Try.underlying22, by
    obtain ⟨i, h1, h2, h3, h4⟩ := info_of (e := 29) (z := .agg #[.int .i64 0, .int .i64 0, .int .i64 0, .int .i64 0, .int .i64 0, .int .i64 0, .int .i64 0, .int .i64 0, .string ⟨#[]⟩]) (sz := 9) (b := 80) (by kernel_rfl)
    exact ⟨i, _, _, h1, h2, h3, h4, rfl, by omega⟩, by omega, mr_len, mr_one⟩
def zeroR : MRul := ⟨⟨0, 0, 0, 0⟩, ⟨0, 0, 0, 0⟩, ⟨#[]⟩⟩
abbrev zR9 : Array Value := #[.int .i64 0, .int .i64 0, .int .i64 0, .int .i64 0, .int .i64 0, .int .i64 0, .int .i64 0, .int .i64 0, .string ⟨#[]⟩]
structure Msg where
  fr : ByteArray
  lab : Lab
  rc : ByteArray
  box : Lab
  text : ByteArray
def Msg.cs (x : Msg) : List Value := [.string x.fr, .int .i64 x.lab.s, .int .i64 x.lab.c, .int .i64 x.lab.i, .int .i64 x.lab.k, .string x.rc, .int .i64 x.box.s, .int .i64 x.box.c, .int .i64 x.box.i, .int .i64 x.box.k, .string x.text]
theorem ms_len (x : Msg) : x.cs.length = 11 := rfl
theorem ms_one (x : Msg) : ∀ v ∈ x.cs, v.oneCell' = true := by
  intro v hv
  unfold Msg.cs at hv
  simp only [List.mem_cons, List.not_mem_nil, or_false] at hv
  rcases hv with rfl | rfl | rfl | rfl | rfl | rfl | rfl | rfl | rfl | rfl | rfl <;> rfl
theorem ms_ok : ElemOk 26 46 11 Msg.cs :=
  ⟨Try.underlying46, by
    obtain ⟨i, h1, h2, h3, h4⟩ := info_of (e := 26) (z := .agg #[.string ⟨#[]⟩, .int .i64 0, .int .i64 0, .int .i64 0, .int .i64 0, .string ⟨#[]⟩, .int .i64 0, .int .i64 0, .int .i64 0, .int .i64 0, .string ⟨#[]⟩]) (sz := 11) (b := 112) (by kernel_rfl)
    exact ⟨i, _, _, h1, h2, h3, h4, rfl, by omega⟩, by omega, ms_len, ms_one⟩
def zeroM : Msg := ⟨⟨#[]⟩, ⟨0, 0, 0, 0⟩, ⟨#[]⟩, ⟨0, 0, 0, 0⟩, ⟨#[]⟩⟩
abbrev zM11 : Array Value := #[.string ⟨#[]⟩, .int .i64 0, .int .i64 0, .int .i64 0, .int .i64 0, .string ⟨#[]⟩, .int .i64 0, .int .i64 0, .int .i64 0, .int .i64 0, .string ⟨#[]⟩]
/-- A part of a struct, from a field on. -/
theorem cells_sub {W : World} {z : Addr} {cs ds : List Value} (h : CellsAt W z cs) (k : Nat) (hk : k ≠ 0) (hd : ∀ j v, ds[j]? = some v → cs[k + j]? = some v) : CellsAt W ⟨z.block, z.off + k, none⟩ ds := fun j v hv => by
  have e : (⟨z.block, z.off + k, none⟩ : Addr).add j = z.add (k + j) := by
    unfold Addr.add
    by_cases hj : j = 0
    · subst hj; simp [hk]
    · rw [if_neg hj, if_neg (by omega)]
      simp [Nat.add_assoc]
  rw [e]
  exact h (k + j) v (hd j v hv)
theorem cells_blk {W : World} {b : Nat} {cs ds : List Value} (h : BlkL b cs W) (k : Nat) (hd : ∀ j v, ds[j]? = some v → cs[k + j]? = some v) : CellsAt W ⟨b, k, none⟩ ds := fun j v hv => by
  have e : (⟨b, k, none⟩ : Addr).add j = ⟨b, k + j, none⟩ := by
    unfold Addr.add
    split <;> simp_all
  rw [e]
  exact (h.1 (k + j) v (hd j v hv)).1
theorem lab4_get {cs : List Value} {k : Nat} {l : Lab} (h0 : cs[k]? = some (.int .i64 l.s)) (h1 : cs[k + 1]? = some (.int .i64 l.c)) (h2 : cs[k + 2]? = some (.int .i64 l.i)) (h3 : cs[k + 3]? = some (.int .i64 l.k)) : ∀ j v, (lab4 l)[j]? = some v → cs[k + j]? = some v := fun j v hv => by
  match j, hv with
  | 0, hv => cases hv; exact h0
  | 1, hv => cases hv; exact h1
  | 2, hv => cases hv; exact h2
  | 3, hv => cases hv; exact h3
theorem ms_lab (m : Msg) : ∀ j v, (lab4 m.lab)[j]? = some v → m.cs[1 + j]? = some v := lab4_get rfl rfl rfl rfl
theorem ms_box (m : Msg) : ∀ j v, (lab4 m.box)[j]? = some v → m.cs[6 + j]? = some v := lab4_get rfl rfl rfl rfl
theorem mr_src (r : MRul) : ∀ j v, (lab4 r.src)[j]? = some v → r.cs[0 + j]? = some v := lab4_get rfl rfl rfl rfl
theorem mr_dst (r : MRul) : ∀ j v, (lab4 r.dst)[j]? = some v → r.cs[4 + j]? = some v := lab4_get rfl rfl rfl rfl
theorem cells_src {W : World} {z : Addr} {r : MRul} (h : CellsAt W z r.cs) : CellsAt W z (lab4 r.src) := fun j v hv => h j v (by have := mr_src r j v hv; rwa [Nat.zero_add] at this)
theorem lab_eqlM (x y : Lab) (w : World) : (binOp .eql 24 (.agg (lab4 x).toArray) (.agg (lab4 y).toArray)).run Try.prog w = .ok (.bool (labEq x y)) w := run_eql_lab x y w
theorem strM_load (w : World) (y : Addr) (v : Value) (h : w.cell? y = some v) : (Instr.loadAt 9 (.pointer (some y))).run Try.prog w = .ok v w := by
  have h1 := Try.underlying9
  go_simp

theorem mput_any {cs ds : List Value} {W : World} {g : Nat} (h : BlkL g cs W) (hl : cs.length = ds.length) (hp : 0 < ds.length) : ∃ W', W.setCells g 0 ds = W' ∧ W.there g 0 ds.length ∧ BlkL g ds W' ∧ ∀ B W0, B ≤ g → Below B W0 W → Below B W0 W' := by
  have h1 : Blk (W.setCells g 0 ds) g ds := h.1.setAll hl
  have ht := h.1.there
  rw [hl] at ht
  exact ⟨_, rfl, ht, ⟨h1, h1.lt (List.getElem?_eq_getElem hp)⟩, fun B W0 hB h => Below.cells hB _ 0 h⟩

section
variable {ops : Array Oper} {o : Oper} {a : Act} {S : World → Prop}
theorem yields_cellM {T : TypeId} (hw : Region.wanted o (yielded ops a.tmps) = true) (x : Operand) (ho : o.op = .load T x) (y : Addr) (hx : a.eval x = .pointer (some y)) (v : Value) (hS : ∀ w, S w → w.cell? y = some v) (hl : ∀ w y v, w.cell? y = some v → (Instr.loadAt T (.pointer (some y))).run Try.prog w = .ok v w) : YieldsIf Try.prog ops S o v a :=
  .inl ⟨hw, fun w hw' => by
    unfold execOp
    simp only [ho, hx, Sem.run_bind, hl w y v (hS w hw'), Result.andThen_ok]
    rfl⟩
end

section
variable {ops : Array Oper} {o : Oper} {a : Act} {w : World} {Q : Exit → Act → World → Prop}
theorem step_store_rowM {T : TypeId} {K : Act → World → Prop} {E : Prop} {W : World} (hg : o.guard = none) (x y : Operand) (ho : o.op = .store T x y) (b : Nat) (hx : a.eval x = .pointer (some ⟨b, 0, none⟩)) (cs : List Value) (hy : a.eval y = .agg cs.toArray)
    (ht : w.there b 0 cs.length) (hi : (Try.prog.info? T).map (·.size) = some cs.length) (h1 : ∀ v ∈ cs, v.oneCell' = true) (hW : w.setCells b 0 cs = W) (hK : K (a.put o.dst undef) W) :
    if Region.wanted o (yielded ops a.tmps) = true then Oper.wp Try.prog o a w K Q else E := by
  have hw : Region.wanted o (yielded ops a.tmps) = true := by simp [Region.wanted, hg]
  rw [if_pos hw]
  exact wp_store_mid T x y ho b 0 cs.toArray hx hy ht hi (all_oneCell_toArray h1) (hW ▸ hK)
end

/-! In plain words. -/
def ruleP (m : Msg) (x : MRul) : Bool := labEq x.src m.lab && labEq x.dst m.box
def ruleF (r : List MRul) (m : Msg) : Option MRul := r.find? (ruleP m)
theorem rule_drop {r : List MRul} {m : Msg} {i : Nat} {x : MRul} (hx : r[i]? = some x) : (r.drop i).find? (ruleP m) = if ruleP m x = true then some x else (r.drop (i + 1)).find? (ruleP m) := by
  have h1 := List.getElem?_eq_some_iff.1 hx
  rw [List.drop_eq_getElem_cons h1.1, h1.2, List.find?_cons]
  cases ruleP m x <;> rfl
/-- Whether a word stands in a text, from a byte on. -/
def stands (t w : ByteArray) (i : Nat) : Prop := ∃ k, i ≤ k ∧ k + w.size ≤ t.size ∧ t.extract k (k + w.size) = w
def inP (u : ByteArray) (b : Lab) (m : Msg) : Bool := eqs m.rc u && labEq m.box b
def inL (l : List Msg) (u : ByteArray) (b : Lab) : List Msg := l.filter (inP u b)
end Go.Proofs.Ytjpabjmicaopcaa
