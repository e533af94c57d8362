/-
  WHERE A PARSE STANDS: the reader in the second block of the call, the answer in its first, all else as it was.
-/
import Derived.Test.YtecleampjeebaaaNodeRdText
import Derived.Test.YtecleampjeebaaaBlk
namespace Go.Proofs.Ytecleampjeebaaa
open Go.RowKit
set_option linter.unusedSimpArgs false
set_option linter.unusedVariables false

structure PSt (w W : World) (a : Option Addr) (n cap : Nat) (l : List UInt8) (r : Rd) (zs : List Value) : Prop where
  rd : RdAt W (w.heap.size + 1) a n cap l r
  m2 : Blk W w.heap.size zs
  bl : Below w.heap.size w W
  ha : ∀ y, a = some y → 0 < n → y.block < w.heap.size
section
variable {w W W' : World} {a : Option Addr} {n cap : Nat} {l : List UInt8} {r r' : Rd} {zs : List Value}
theorem PSt.two (h : PSt w W a n cap l r zs) : w.heap.size + 2 ≤ W.heap.size := h.rd.lt
theorem PSt.call (h : PSt w W a n cap l r zs) (hr : RdAt W' (w.heap.size + 1) a n cap l r') (ht : Rest (w.heap.size + 1) W W') : PSt w W' a n cap l r' zs := by
  have h2 := h.two
  exact ⟨hr, h.m2.same (ht.block _ (by omega) (fun e => by injection e; omega)), h.bl.grown ht h.bl.size (fun k hk => by injection hk; omega), h.ha⟩
theorem PSt.past (h : PSt w W a n cap l r zs) {p : Nat} (hp : w.heap.size + 2 ≤ p) (b : Below p W W') : PSt w W' a n cap l r zs := by
  have h2 := h.two
  exact ⟨h.rd.past (by omega) (fun y hy hn => by have := h.ha y hy hn; omega) b, h.m2.same (b.block _ (by omega)), h.bl.trans (b.mono (by omega)), h.ha⟩
theorem blk_rest {p : Nat} {vs : List Value} {v : Value} (f : Blk W p vs) (hp : w.heap.size + 2 ≤ p) (h0 : vs[0]? = some v) (ht : Rest (w.heap.size + 1) W W') : Blk W' p vs := f.same (ht.block _ (f.lt h0) (fun e => by injection e; omega))
theorem pst_start (hn : n < 1000000) (hnc : n ≤ cap) (hb : BytesAt w a n l) (cs : Array Value) (T U : TypeId) : PSt w ((w.alloc (.cells cs T)).alloc (.cells #[.slice a n cap, .int .i64 0, .int .i64 0] U)) a n cap l ⟨0, 0⟩ cs.toList := by
  have b1 := alloc_below w (.cells cs T)
  have m2 := blk_alloc w cs T
  have s1 := World.size_alloc w (.cells cs T)
  generalize w.alloc (.cells cs T) = W1 at *
  have b2 := alloc_below W1 (.cells #[.slice a n cap, .int .i64 0, .int .i64 0] U)
  have m3 := blk_alloc W1 #[.slice a n cap, .int .i64 0, .int .i64 0] U
  rw [s1] at m3
  have ha : ∀ y, a = some y → 0 < n → y.block < w.heap.size := fun y hy hn => by
    obtain ⟨y', hy', hc⟩ := hb.2 0 hn
    rw [hy] at hy'
    obtain rfl := Option.some.inj hy'
    have := World.block_lt_of_cell? _ _ hc
    rwa [add_block] at this
  have hB := Below.then b1 b2
  exact ⟨⟨(m3 0 _ rfl).1, (m3 1 _ rfl).1, (m3 2 _ rfl).1, (m3 1 _ rfl).2, (m3 2 _ rfl).2, hb.below hB, fun y hy hn => by have := ha y hy hn; omega, Nat.zero_le _, hn, hnc⟩, m2.same (b2.block _ (by omega)), hB, ha⟩
end
/-- A number as its own. -/
def numV (l : List UInt8) (r : Rd) : Int := wordV (numTo l r 8)
def numR8 (l : List UInt8) (r : Rd) : Rd := numR l r 8
theorem rnum8_any (g : Nat) (a : Option Addr) (n cap : Nat) (l : List UInt8) (r : Rd) (w : World) (h : RdAt w g a n cap l r) :
    Calls Try.prog 43 #[.pointer (some ⟨g, 0, none⟩)] w fun e w' => e = .returned (.int .i64 (numV l r)) ∧ RdAt w' g a n cap l (numR8 l r) ∧ Rest g w w' := rnumR_any g a n cap l r w h
end Go.Proofs.Ytecleampjeebaaa
