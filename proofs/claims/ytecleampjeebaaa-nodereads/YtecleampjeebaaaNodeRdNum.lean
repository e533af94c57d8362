/-
  A NUMBER OF EIGHT BYTES, A LABEL OF FOUR, READ (donjonref10's reader).
-/
import Derived.Test.YtecleampjeebaaaNodeRd
namespace Go.Proofs.Ytecleampjeebaaa
open Go.RowKit
set_option linter.unusedSimpArgs false
set_option linter.unusedVariables false

theorem u8V_lt (l : List UInt8) (r : Rd) : u8V l r < 256 := by
  unfold u8V
  split
  · exact (l.getD r.p 0).toNat_lt
  · omega
def numR (l : List UInt8) (r : Rd) : Nat → Rd
  | 0 => r
  | k + 1 => u8R l (numR l r k)
def numTo (l : List UInt8) (r : Rd) : Nat → Nat
  | 0 => 0
  | k + 1 => numTo l r k * 256 + u8V l (numR l r k)
theorem numTo_lt (l : List UInt8) (r : Rd) (k : Nat) : numTo l r k < 256 ^ k := by
  induction k with
  | zero => simp [numTo]
  | succ k ih =>
    have := u8V_lt l (numR l r k)
    rw [numTo, Nat.pow_succ]
    omega
/-- A word that is read. -/
def wordV (x : Nat) : Int := if x < 9223372036854775808 then (x : Int) else (x : Int) - 18446744073709551616
theorem bits_or_low (a b : Nat) (ha : a * 256 < 18446744073709551616) (hb : b < 256) : bits .or .u64 ((a : Int) * 256) (b : Int) = ((a * 256 + b : Nat) : Int) := by
  have hq : a * 256 ||| b = a * 256 + b := by
    have := Nat.shiftLeft_add_eq_or_of_lt (a := a) (i := 8) (b := b) hb
    rw [Nat.shiftLeft_eq] at this
    exact this.symm
  have h1 : (BitVec.ofInt 64 ((a : Int) * 256)).toNat = a * 256 := by
    rw [show ((a : Int) * 256) = ((a * 256 : Nat) : Int) by omega, BitVec.ofInt_natCast, BitVec.toNat_ofNat]; exact Nat.mod_eq_of_lt (by omega)
  have h2 : (BitVec.ofInt 64 (b : Int)).toNat = b := by
    rw [BitVec.ofInt_natCast, BitVec.toNat_ofNat]; exact Nat.mod_eq_of_lt (by omega)
  show IntKind.u64.wrap ((BitVec.ofInt 64 ((a : Int) * 256) ||| BitVec.ofInt 64 (b : Int)).toNat : Int) = _
  rw [BitVec.toNat_or, h1, h2, hq, IntKind.wrap_u64]
  omega

set_option maxHeartbeats 2000000 in
theorem rnumR_any (g : Nat) (a : Option Addr) (n cap : Nat) (l : List UInt8) (r : Rd) (w : World) (h : RdAt w g a n cap l r) :
    Calls Try.prog 43 #[.pointer (some ⟨g, 0, none⟩)] w fun e w' => e = .returned (.int .i64 (wordV (numTo l r 8))) ∧ RdAt w' g a n cap l (numR l r 8) ∧ Rest g w w' := by
  go_enter Try.func43, Try.ntmps43
  go_wp2_with fail
  go_loopw [3, 4] (fun t3 t4 wr => ∃ i : Nat, i ≤ 8 ∧ t4 = .int .i64 (i : Int) ∧ t3 = .int .u64 (numTo l r i : Nat) ∧ RdAt wr g a n cap l (numR l r i) ∧ Rest g w wr) (fun _ t4 _ => 8 - (Go.RowKit.intOf t4).toNat)
  case atStart => exact ⟨0, by omega, rfl, rfl, h, Rest.refl _ _⟩
  case round =>
    obtain ⟨i, hi, rfl, rfl, hR, hT⟩ := hrel
    by_cases hlt : i < 8
    · have c1 := ru8_any g a n cap l _ wr hR
      have hv := numTo_lt l r i
      have hu := u8V_lt l (numR l r i)
      have hnx : numTo l r (i + 1) = numTo l r i * 256 + u8V l (numR l r i) := rfl
      have hrx : numR l r (i + 1) = u8R l (numR l r i) := rfl
      have hb : numTo l r i * 256 < 18446744073709551616 := by
        have : 256 ^ (i + 1) ≤ 256 ^ 8 := Nat.pow_le_pow_right (by decide) (by omega)
        rw [Nat.pow_succ] at this
        omega
      generalize numTo l r i = x at *
      generalize u8V l (numR l r i) = c at *
      have hor := bits_or_low x c hb hu
      clear hv
      go_wp2_with fail
      refine c1.mono ?_
      rintro e w1 ⟨rfl, hR1, hT1⟩
      have hwc : IntKind.u64.wrap (c : Int) = (c : Int) := by rw [IntKind.wrap_u64]; omega
      go_wp2
      exact ⟨⟨i + 1, by omega, by simp, by rw [hnx]; simp, by rw [hrx]; exact hR1, hT.trans hT1⟩, by simp [Go.RowKit.intOf]; omega⟩
    · obtain rfl : i = 8 := by omega
      have hv := numTo_lt l r 8
      have hwv : IntKind.i64.wrap (numTo l r 8 : Int) = wordV (numTo l r 8) := by
        rw [IntKind.wrap_i64]
        unfold wordV
        split <;> omega
      go_wp2_with fail
      go_ret
      exact ⟨by first | rfl | simp [hwv], hR, hT⟩

/-- A label that is read. -/
def labV (l : List UInt8) (r : Rd) : Lab := ⟨(u8V l r : Nat), (u8V l (u8R l r) : Nat), (u8V l (u8R l (u8R l r)) : Nat), (u8V l (u8R l (u8R l (u8R l r))) : Nat)⟩
def labR (l : List UInt8) (r : Rd) : Rd := u8R l (u8R l (u8R l (u8R l r)))
theorem BytesAt.same {W W' : World} {a : Option Addr} {n : Nat} {l : List UInt8} (h : BytesAt W a n l) (k : ∀ y, a = some y → 0 < n → W'.heap[y.block]? = W.heap[y.block]?) : BytesAt W' a n l := by
  refine ⟨h.1, fun j hj => ?_⟩
  obtain ⟨y, hy, hc⟩ := h.2 j hj
  exact ⟨y, hy, (World.cell?_of_block (by rw [add_block]; exact k y hy (by omega))).trans hc⟩
theorem RdAt.same {W W' : World} {g : Nat} {a : Option Addr} {n cap : Nat} {l : List UInt8} {r : Rd} (h : RdAt W g a n cap l r) (hg : W'.heap[g]? = W.heap[g]?) (ha : ∀ y, a = some y → 0 < n → W'.heap[y.block]? = W.heap[y.block]?) : RdAt W' g a n cap l r :=
  ⟨(World.cell?_of_block (a := ⟨g, 0, none⟩) hg).trans h.c0, (World.cell?_of_block (a := ⟨g, 1, none⟩) hg).trans h.c1, (World.cell?_of_block (a := ⟨g, 2, none⟩) hg).trans h.c2, (World.frozen?_of_block (a := ⟨g, 1, none⟩) hg).trans h.f1, (World.frozen?_of_block (a := ⟨g, 2, none⟩) hg).trans h.f2, h.bs.same ha, h.ap, h.le, h.sm, h.nc⟩
theorem RdAt.lt {W : World} {g : Nat} {a : Option Addr} {n cap : Nat} {l : List UInt8} {r : Rd} (h : RdAt W g a n cap l r) : g < W.heap.size := World.block_lt_of_cell? _ _ h.c0
theorem RdAt.alt {W : World} {g : Nat} {a : Option Addr} {n cap : Nat} {l : List UInt8} {r : Rd} (h : RdAt W g a n cap l r) : ∀ y, a = some y → 0 < n → y.block < W.heap.size := fun y hy hn => by
  obtain ⟨y', hy', hc⟩ := h.bs.2 0 hn
  rw [hy] at hy'
  obtain rfl := Option.some.inj hy'
  have := World.block_lt_of_cell? _ _ hc
  rwa [add_block] at this
/-- What lies behind a mark may change. -/
theorem RdAt.past {W W' : World} {B g : Nat} {a : Option Addr} {n cap : Nat} {l : List UInt8} {r : Rd} (h : RdAt W g a n cap l r) (hg : g < B) (ha : ∀ y, a = some y → 0 < n → y.block < B) (b : Below B W W') : RdAt W' g a n cap l r := h.same (b.block g hg) fun y hy hn => b.block _ (ha y hy hn)
theorem Rest.past {B g : Nat} {w W W' : World} (h : Rest g w W) (hB : w.heap.size ≤ B) (b : Below B W W') : Rest g w W' := ⟨b.os.trans h.os, b.tape.trans h.tape, b.output.trans h.output, Nat.le_trans h.size b.size, fun k hk hne => (b.block k (Nat.lt_of_lt_of_le hk hB)).trans (h.block k hk hne)⟩
/-- A label in a block of the call's own. -/
abbrev LBox (W : World) (b : Nat) (x : Lab) : Prop := (W.cell? ⟨b, 0, none⟩ = some (.int .i64 x.s) ∧ W.cell? ⟨b, 1, none⟩ = some (.int .i64 x.c) ∧ W.cell? ⟨b, 2, none⟩ = some (.int .i64 x.i) ∧ W.cell? ⟨b, 3, none⟩ = some (.int .i64 x.k)) ∧ W.frozen? ⟨b, 0, none⟩ = false ∧ W.frozen? ⟨b, 1, none⟩ = false ∧ W.frozen? ⟨b, 2, none⟩ = false ∧ W.frozen? ⟨b, 3, none⟩ = false
theorem LBox.same {W W' : World} {b : Nat} {x : Lab} (h : LBox W b x) (hb : W'.heap[b]? = W.heap[b]?) : LBox W' b x :=
  ⟨⟨(World.cell?_of_block (a := ⟨b, 0, none⟩) hb).trans h.1.1, (World.cell?_of_block (a := ⟨b, 1, none⟩) hb).trans h.1.2.1, (World.cell?_of_block (a := ⟨b, 2, none⟩) hb).trans h.1.2.2.1, (World.cell?_of_block (a := ⟨b, 3, none⟩) hb).trans h.1.2.2.2⟩, (World.frozen?_of_block (a := ⟨b, 0, none⟩) hb).trans h.2.1, (World.frozen?_of_block (a := ⟨b, 1, none⟩) hb).trans h.2.2.1, (World.frozen?_of_block (a := ⟨b, 2, none⟩) hb).trans h.2.2.2.1, (World.frozen?_of_block (a := ⟨b, 3, none⟩) hb).trans h.2.2.2.2⟩
theorem lbox_alloc (w : World) (x : Lab) (T : TypeId) : LBox (w.alloc (.cells #[.int .i64 x.s, .int .i64 x.c, .int .i64 x.i, .int .i64 x.k] T)) w.heap.size x := by
  refine ⟨⟨?_, ?_, ?_, ?_⟩, World.frozen?_alloc_new w _ T 0, World.frozen?_alloc_new w _ T 1, World.frozen?_alloc_new w _ T 2, World.frozen?_alloc_new w _ T 3⟩ <;> (rw [World.cell?_alloc_at _ _ _ _ rfl]; rfl)
theorem LBox.set0 {W : World} {b : Nat} {x : Lab} (h : LBox W b x) (v : Int) : LBox (W.setCell ⟨b, 0, none⟩ (.int .i64 v)) b ⟨v, x.c, x.i, x.k⟩ := by
  obtain ⟨⟨h0, h1, h2, h3⟩, f0, f1, f2, f3⟩ := h
  refine ⟨⟨?_, ?_, ?_, ?_⟩, ?_, ?_, ?_, ?_⟩ <;> simp [World.cell?_setCell_other, World.cell?_setCell_same', World.frozen?_setCell, *]
theorem LBox.set1 {W : World} {b : Nat} {x : Lab} (h : LBox W b x) (v : Int) : LBox (W.setCell ⟨b, 1, none⟩ (.int .i64 v)) b ⟨x.s, v, x.i, x.k⟩ := by
  obtain ⟨⟨h0, h1, h2, h3⟩, f0, f1, f2, f3⟩ := h
  refine ⟨⟨?_, ?_, ?_, ?_⟩, ?_, ?_, ?_, ?_⟩ <;> simp [World.cell?_setCell_other, World.cell?_setCell_same', World.frozen?_setCell, *]
theorem LBox.set2 {W : World} {b : Nat} {x : Lab} (h : LBox W b x) (v : Int) : LBox (W.setCell ⟨b, 2, none⟩ (.int .i64 v)) b ⟨x.s, x.c, v, x.k⟩ := by
  obtain ⟨⟨h0, h1, h2, h3⟩, f0, f1, f2, f3⟩ := h
  refine ⟨⟨?_, ?_, ?_, ?_⟩, ?_, ?_, ?_, ?_⟩ <;> simp [World.cell?_setCell_other, World.cell?_setCell_same', World.frozen?_setCell, *]
theorem LBox.set3 {W : World} {b : Nat} {x : Lab} (h : LBox W b x) (v : Int) : LBox (W.setCell ⟨b, 3, none⟩ (.int .i64 v)) b ⟨x.s, x.c, x.i, v⟩ := by
  obtain ⟨⟨h0, h1, h2, h3⟩, f0, f1, f2, f3⟩ := h
  refine ⟨⟨?_, ?_, ?_, ?_⟩, ?_, ?_, ?_, ?_⟩ <;> simp [World.cell?_setCell_other, World.cell?_setCell_same', World.frozen?_setCell, *]
end Go.Proofs.Ytecleampjeebaaa
