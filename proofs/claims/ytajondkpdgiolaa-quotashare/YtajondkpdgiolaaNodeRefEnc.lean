/-
  NODES, WRITTEN: the document's own Encode (donjonref10). Written by mk_nenc.py.
-/
import Derived.Test.YtajondkpdgiolaaNodeEntry
import Derived.Test.YtajondkpdgiolaaGrs
namespace Go.Proofs.Ytajondkpdgiolaa
open Go.RowKit
set_option maxRecDepth 8000
set_option linter.unusedSimpArgs false
set_option linter.unusedVariables false

/-- A node. -/
structure Nod where
  path : ByteArray
  dir : Bool
  label : Lab
  acl : List Gr
  r1 : Int
  r2 : Int
  r3 : Int
  gates : Int
  words : List Int
  by_ : Lab
abbrev Nod.v (n : Nod) (aa : Option Addr) (ca : Nat) (wa : Option Addr) (cw : Nat) : Value := .agg #[.string n.path, .bool n.dir, .int .i64 n.label.s, .int .i64 n.label.c, .int .i64 n.label.i, .int .i64 n.label.k, .slice aa n.acl.length ca, .int .i64 n.r1, .int .i64 n.r2, .int .i64 n.r3, .int .i64 n.gates, .slice wa n.words.length cw, .int .i64 n.by_.s, .int .i64 n.by_.c, .int .i64 n.by_.i, .int .i64 n.by_.k]
def encG (q : Gr) : List UInt8 := encT q.u ++ [lowB q.m]
def dirB (d : Bool) : UInt8 := if d then 1 else 0
def encN (n : Nod) : List UInt8 := encT n.path ++ [dirB n.dir] ++ encL n.label ++ encL n.by_ ++ [lowB (n.acl.length : Int)] ++ n.acl.flatMap encG ++ [lowB n.r1, lowB n.r2, lowB n.r3, lowB n.gates, lowB (n.words.length : Int)] ++ n.words.flatMap encW
/-- Where a node's rows lie. -/
def WrdsAt (W : World) (a : Option Addr) (l : List Int) : Prop := ∀ j x, l[j]? = some x → ∃ y, a = some y ∧ W.cell? (y.add j) = some (.int .i64 x)
theorem WrdsAt.below {W W' : World} {a : Option Addr} {l : List Int} (h : WrdsAt W a l) (b : Below W.heap.size W W') : WrdsAt W' a l := fun j q hq => by
  obtain ⟨y, hy, h1⟩ := h j q hq
  exact ⟨y, hy, (b.cell (World.block_lt_of_cell? _ _ h1)).trans h1⟩
structure Nod.Small (n : Nod) : Prop where
  p : n.path.size < 100000
  a : n.acl.length < 300
  u : ∀ q ∈ n.acl, q.u.size < 1000
  w : n.words.length < 1000
abbrev NBox (W : World) (g : Nat) (n : Nod) (aa : Option Addr) (ca : Nat) (wa : Option Addr) (cw : Nat) : Prop := W.cell? ⟨g, 0, none⟩ = some (.string n.path) ∧ W.cell? ⟨g, 1, none⟩ = some (.bool n.dir) ∧ W.cell? ⟨g, 2, none⟩ = some (.int .i64 n.label.s) ∧ W.cell? ⟨g, 3, none⟩ = some (.int .i64 n.label.c) ∧ W.cell? ⟨g, 4, none⟩ = some (.int .i64 n.label.i) ∧ W.cell? ⟨g, 5, none⟩ = some (.int .i64 n.label.k) ∧ W.cell? ⟨g, 6, none⟩ = some (.slice aa n.acl.length ca) ∧ W.cell? ⟨g, 7, none⟩ = some (.int .i64 n.r1) ∧ W.cell? ⟨g, 8, none⟩ = some (.int .i64 n.r2) ∧ W.cell? ⟨g, 9, none⟩ = some (.int .i64 n.r3) ∧ W.cell? ⟨g, 10, none⟩ = some (.int .i64 n.gates) ∧ W.cell? ⟨g, 11, none⟩ = some (.slice wa n.words.length cw) ∧ W.cell? ⟨g, 12, none⟩ = some (.int .i64 n.by_.s) ∧ W.cell? ⟨g, 13, none⟩ = some (.int .i64 n.by_.c) ∧ W.cell? ⟨g, 14, none⟩ = some (.int .i64 n.by_.i) ∧ W.cell? ⟨g, 15, none⟩ = some (.int .i64 n.by_.k)
theorem NBox.keep {W W' : World} {g : Nat} {n : Nod} {aa : Option Addr} {ca : Nat} {wa : Option Addr} {cw : Nat} (h : NBox W g n aa ca wa cw) (b : Below (g + 1) W W') : NBox W' g n aa ca wa cw := by
  obtain ⟨h0, h1, h2, h3, h4, h5, h6, h7, h8, h9, h10, h11, h12, h13, h14, h15⟩ := h
  have c : ∀ k, W'.cell? ⟨g, k, none⟩ = W.cell? ⟨g, k, none⟩ := fun k => b.cell (p := ⟨g, k, none⟩) (Nat.lt_succ_self g)
  exact ⟨(c _).trans h0, (c _).trans h1, (c _).trans h2, (c _).trans h3, (c _).trans h4, (c _).trans h5, (c _).trans h6, (c _).trans h7, (c _).trans h8, (c _).trans h9, (c _).trans h10, (c _).trans h11, (c _).trans h12, (c _).trans h13, (c _).trans h14, (c _).trans h15⟩
theorem keepG {W W' : World} {g : Nat} {n : Nod} {aa : Option Addr} {ca : Nat} {wa : Option Addr} {cw : Nat} {y : Addr} {q : Gr} (hy : y.block < g + 1) (h : NBox W g n aa ca wa cw ∧ W.cell? y = some (.string q.u) ∧ W.cell? ⟨y.block, y.off + 1, none⟩ = some (.int .i64 q.m)) (b : Below (g + 1) W W') : NBox W' g n aa ca wa cw ∧ W'.cell? y = some (.string q.u) ∧ W'.cell? ⟨y.block, y.off + 1, none⟩ = some (.int .i64 q.m) :=
  ⟨h.1.keep b, (b.cell hy).trans h.2.1, (b.cell (p := ⟨y.block, _, none⟩) hy).trans h.2.2⟩
def ncells (n : Nod) (aa : Option Addr) (ca : Nat) (wa : Option Addr) (cw : Nat) : Array Value := #[.string n.path, .bool n.dir, .int .i64 n.label.s, .int .i64 n.label.c, .int .i64 n.label.i, .int .i64 n.label.k, .slice aa n.acl.length ca, .int .i64 n.r1, .int .i64 n.r2, .int .i64 n.r3, .int .i64 n.gates, .slice wa n.words.length cw, .int .i64 n.by_.s, .int .i64 n.by_.c, .int .i64 n.by_.i, .int .i64 n.by_.k]
theorem nbox_alloc (w : World) (n : Nod) (aa : Option Addr) (ca : Nat) (wa : Option Addr) (cw : Nat) (T : TypeId) : NBox (w.alloc (.cells (ncells n aa ca wa cw) T)) w.heap.size n aa ca wa cw := by
  refine ⟨?_, ?_, ?_, ?_, ?_, ?_, ?_, ?_, ?_, ?_, ?_, ?_, ?_, ?_, ?_, ?_⟩ <;> (rw [World.cell?_alloc_at _ _ _ _ rfl]; rfl)
theorem flat_take {α β : Type} (f : α → List β) (l : List α) {i : Nat} {q : α} (h : l[i]? = some q) : (l.take (i + 1)).flatMap f = (l.take i).flatMap f ++ f q := by
  rw [List.take_add_one, h]
  simp
theorem flat_len {α β : Type} (f : α → List β) (m : Nat) (l : List α) (h : ∀ q ∈ l, (f q).length ≤ m) : (l.flatMap f).length ≤ l.length * m := by
  induction l with
  | nil => simp
  | cons q r ih =>
    rw [List.flatMap_cons, List.length_append, List.length_cons, Nat.add_mul, Nat.one_mul]
    have h1 := h q List.mem_cons_self
    have h2 := ih fun z hz => h z (List.mem_cons_of_mem _ hz)
    omega

end Go.Proofs.Ytajondkpdgiolaa
