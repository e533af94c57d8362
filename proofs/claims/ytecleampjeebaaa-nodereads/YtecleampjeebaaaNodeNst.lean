/-
  WHERE THE PARSE OF A NODE STANDS: the reader, the answer's block, the node's own block and its two rows.
-/
import Derived.Test.YtecleampjeebaaaNodeCut
import Derived.Test.YtecleampjeebaaaRws
namespace Go.Proofs.Ytecleampjeebaaa
open Go.RowKit
set_option linter.unusedSimpArgs false
set_option linter.unusedVariables false

def gcells (g : Gr) : List Value := [.string g.u, .int .i64 g.m]
def wcell (x : Int) : List Value := [.int .i64 x]
theorem gr_ok : ElemOk 60 24 2 gcells :=
  ⟨Try.underlying24, by
    obtain ⟨i, h1, h2, h3, h4⟩ := info_of (e := 60) (z := .agg #[.string ⟨#[]⟩, .int .i64 0]) (sz := 2) (b := 24) (by kernel_rfl)
    exact ⟨i, _, _, h1, h2, h3, h4, rfl, by omega⟩, by omega, fun _ => rfl, fun x u hu => by simp [gcells] at hu; rcases hu with rfl | rfl <;> rfl⟩
theorem wd_ok : ElemOk 2 27 1 wcell :=
  ⟨Try.underlying27, by
    obtain ⟨i, h1, h2, h3, h4⟩ := info_of (e := 2) (z := .int .i64 0) (sz := 1) (b := 8) (by kernel_rfl)
    exact ⟨i, _, _, h1, h2, h3, h4, rfl, by omega⟩, by omega, fun _ => rfl, fun x u hu => by simp [wcell] at hu; subst hu; rfl⟩
abbrev OwnG (w : World) (base : Nat) (v : Value) (l : List Gr) : Prop := OwnR 60 2 gcells w base v l
abbrev OwnW (w : World) (base : Nat) (v : Value) (l : List Int) : Prop := OwnR 2 1 wcell w base v l
theorem RowAt.grs {W : World} {a : Option Addr} {l : List Gr} (h : RowAt 2 gcells W a l) : GrsAt W a l := fun j q hq => by
  obtain ⟨y, hy, hc⟩ := h j q hq
  refine ⟨y, hy, hc 0 (by omega), ?_⟩
  have := hc 1 (by omega)
  rw [add_off _ _ _ (by omega)] at this
  exact this
theorem RowAt.wrds {W : World} {a : Option Addr} {l : List Int} (h : RowAt 1 wcell W a l) : WrdsAt W a l := fun j q hq => by
  obtain ⟨y, hy, hc⟩ := h j q hq
  have := hc 0 (by omega)
  rw [Nat.mul_one, Nat.add_zero] at this
  exact ⟨y, hy, this⟩
theorem GrsAt.row {W : World} {a : Option Addr} {l : List Gr} (h : GrsAt W a l) : RowAt 2 gcells W a l := fun j q hq => by
  obtain ⟨y, hy, h1, h2⟩ := h j q hq
  refine ⟨y, hy, fun i hi => ?_⟩
  rcases Nat.lt_succ_iff_lt_or_eq.1 hi with h0 | rfl
  · obtain rfl : i = 0 := by omega
    exact h1
  · rw [add_off _ _ _ (by omega)]
    exact h2
theorem WrdsAt.row {W : World} {a : Option Addr} {l : List Int} (h : WrdsAt W a l) : RowAt 1 wcell W a l := fun j q hq => by
  obtain ⟨y, hy, h1⟩ := h j q hq
  refine ⟨y, hy, fun i hi => ?_⟩
  obtain rfl : i = 0 := by omega
  rw [Nat.mul_one, Nat.add_zero]
  exact h1
theorem OwnR.rest {α : Type} {e : TypeId} {sz : Nat} {f : α → List Value} {w w' : World} {base g : Nat} {v : Value} {l : List α} (h : OwnR e sz f w base v l) (ht : Rest g w w') (hg : g < base) : OwnR e sz f w' base v l :=
  h.keep fun k hk => ht.block k (h.lt hk).2 (fun q => by have := (h.lt hk).1; injection q; omega)
theorem OwnR.set {α : Type} {e : TypeId} {sz : Nat} {f : α → List Value} {w : World} {base g j : Nat} {v u : Value} {l : List α} (h : OwnR e sz f w base v l) (hg : v.ownBlock ≠ some g) : OwnR e sz f (w.setCell ⟨g, j, none⟩ u) base v l :=
  h.keep fun k hk => heap_setCell_other _ ⟨g, j, none⟩ k _ (fun q => hg (by rw [hk, q]))
/-- A node's value, its two rows as values. -/
abbrev Nod.vv (n : Nod) (va vw : Value) : Value := .agg #[.string n.path, .bool n.dir, .int .i64 n.label.s, .int .i64 n.label.c, .int .i64 n.label.i, .int .i64 n.label.k, va, .int .i64 n.r1, .int .i64 n.r2, .int .i64 n.r3, .int .i64 n.gates, vw, .int .i64 n.by_.s, .int .i64 n.by_.c, .int .i64 n.by_.i, .int .i64 n.by_.k]
abbrev nzero : List Value := [.string ⟨#[]⟩, .bool false, .int .i64 0, .int .i64 0, .int .i64 0, .int .i64 0, .slice none 0 0, .int .i64 0, .int .i64 0, .int .i64 0, .int .i64 0, .slice none 0 0, .int .i64 0, .int .i64 0, .int .i64 0, .int .i64 0]
structure NSt (w W : World) (a : Option Addr) (n cap : Nat) (l : List UInt8) (r : Rd) (p : Nat) (cs : List Value) : Prop where
  ps : PSt w W a n cap l r nzero
  bk : Blk W p cs
  hp : w.heap.size + 2 ≤ p
  lt : p < W.heap.size
section
variable {w W W' : World} {a : Option Addr} {n cap p : Nat} {l : List UInt8} {r r' : Rd} {cs : List Value}
theorem NSt.call (h : NSt w W a n cap l r p cs) (hr : RdAt W' (w.heap.size + 1) a n cap l r') (ht : Rest (w.heap.size + 1) W W') : NSt w W' a n cap l r' p cs := by
  have hp := h.hp
  exact ⟨h.ps.call hr ht, h.bk.same (ht.block _ h.lt (fun q => by injection q; omega)), h.hp, Nat.lt_of_lt_of_le h.lt ht.size⟩
theorem NSt.past (h : NSt w W a n cap l r p cs) {q : Nat} (hq : p < q) (b : Below q W W') : NSt w W' a n cap l r p cs := by
  have hp := h.hp
  exact ⟨h.ps.past (by omega) b, h.bk.same (b.block _ hq), h.hp, Nat.lt_of_lt_of_le h.lt b.size⟩
theorem NSt.set (h : NSt w W a n cap l r p cs) (k : Nat) (v : Value) (hk : k < cs.length) : NSt w (W.setCell ⟨p, k, none⟩ v) a n cap l r p (cs.set k v) := by
  have hp := h.hp
  have b : Below p W (W.setCell ⟨p, k, none⟩ v) := (Below.refl _ _).setCell (p := ⟨p, k, none⟩) (Nat.le_refl _) _
  exact ⟨h.ps.past hp b, h.bk.set k v hk, h.hp, Nat.lt_of_lt_of_le h.lt b.size⟩
theorem NSt.err (h : NSt w W a n cap l r p cs) (e : Int) : NSt w (W.setCell ⟨w.heap.size + 1, 2, none⟩ (.int .i64 e)) a n cap l ⟨r.p, e⟩ p cs :=
  h.call (h.ps.rd.setE e) (Rest.set _ _ _ _)
theorem NSt.drew (h : NSt w W a n cap l r p cs) : NSt w W.drew a n cap l r p cs := h.call h.ps.rd.drew (Rest.refl _ _).drew
theorem nst_start {W : World} (h : PSt w W a n cap l r nzero) (x : ByteArray) (T : TypeId) (cs : Array Value) : NSt w (W.alloc (.cells cs T)) a n cap l r W.heap.size cs.toList := by
  have h2 := h.two
  exact ⟨h.past h2 (alloc_below _ _), blk_alloc W cs T, h2, by simp⟩
end
end Go.Proofs.Ytecleampjeebaaa
