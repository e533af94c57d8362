/-
  PACKAGE node AS IT LANDED: its reader's eight, grants, words.
-/
import Derived.Test.YtecleampjeebaaaNodeFour
namespace Go.Proofs.Ytecleampjeebaaa
open Go.RowKit
set_option linter.unusedSimpArgs false
set_option linter.unusedVariables false

theorem bits_or_word (a b : Nat) (ha : a * 256 < 18446744073709551616) (hb : b < 256) : bits .or .i64 (IntKind.i64.wrap ((a : Int) * 256)) (b : Int) = IntKind.i64.wrap ((a * 256 + b : Nat) : Int) := by
  have hq : a * 256 ||| b = a * 256 + b := by
    have := Nat.shiftLeft_add_eq_or_of_lt (a := a) (i := 8) (b := b) hb
    rw [Nat.shiftLeft_eq] at this
    exact this.symm
  have h1 : (BitVec.ofInt 64 (IntKind.i64.wrap ((a : Int) * 256))).toNat = a * 256 := by
    rw [BitVec.toNat_ofInt, IntKind.wrap_i64]
    omega
  have h2 : (BitVec.ofInt 64 (b : Int)).toNat = b := by
    rw [BitVec.ofInt_natCast, BitVec.toNat_ofNat]; exact Nat.mod_eq_of_lt (by omega)
  show IntKind.i64.wrap ((BitVec.ofInt 64 (IntKind.i64.wrap ((a : Int) * 256)) ||| BitVec.ofInt 64 (b : Int)).toNat : Int) = _
  rw [BitVec.toNat_or, h1, h2, hq]
/-- What take made, byte by byte. -/
theorem bytes_of {W : World} {base : Nat} {v : Value} {l : List UInt8} {p k : Nat} (hk : 0 < k) (h : p + k ≤ l.length) (ho : OwnB W base v ((l.drop p).take k)) : ∃ g cap, v = .slice (some ⟨g, 0, none⟩) k cap ∧ base ≤ g ∧ ∀ j, j < k → W.cell? ((⟨g, 0, none⟩ : Addr).add j) = some (.int .u8 (u8V l (numR l ⟨p, 0⟩ j) : Nat)) := by
  have hrow : W.ownsRow base 5 1 v ((l.drop p).take k).length (valsB ((l.drop p).take k)) := ho
  have hlen : ((l.drop p).take k).length = k := by simp; omega
  rcases ho.2 with ⟨rfl, h2⟩ | ⟨g, cap, cur, hv, hb, _⟩
  · omega
  · rw [hlen] at hv
    rw [hlen] at hrow
    subst hv
    refine ⟨g, cap, rfl, hb, fun j hj => ?_⟩
    rw [add_at, hrow.cellAt j (by omega), ← byte_take h hj 0]
    have hj2 : j < ((l.drop p).take k).length := by omega
    rw [valsB, List.getElem?_map, List.getElem?_eq_getElem hj2, List.getD_eq_getElem?_getD, List.getElem?_eq_getElem hj2]
    rfl
set_option maxHeartbeats 4000000 in
theorem eight_any (g B : Nat) (l : List UInt8) (r : Rd) (h0 : r.err = 0) (w : World) (h : RdN w g B l r.p) :
    Calls Try.prog 61 #[.pointer (some ⟨g, 0, none⟩)] w (Got g B l w (numR8 l r) fun v _ => v = .int .i64 (numV l r)) := by
  obtain ⟨p, er⟩ := r
  obtain rfl : er = 0 := h0
  have hle := h.le
  have k := take_any g B l p 8 (by omega) w h
  unfold numR8 numV
  have hz := numR_zero (l := l) (k := 8) hle
  have hv8 := numTo_lt l ⟨p, 0⟩ 8
  have hwv : wordV (numTo l ⟨p, 0⟩ 8) = IntKind.i64.wrap (numTo l ⟨p, 0⟩ 8 : Int) := by
    rw [IntKind.wrap_i64]
    unfold wordV
    split <;> omega
  rw [hwv]
  obtain ⟨r8, hr8⟩ : ∃ r8, numR l ⟨p, 0⟩ 8 = r8 := ⟨_, rfl⟩
  have hgn := fun (W : World) (e : Ending) => got_num (g := g) (B := B) (w := w) (e := e) (w' := W) (k := 8) (K := fun v w' => OwnB w' w.heap.size v ((l.drop p).take 8)) hle
  rw [hr8] at hz hgn ⊢
  clear hr8 hv8 hwv
  go_enter Try.func61, Try.ntmps61
  go_wp2_with fail
  refine k.mono ?_
  intro e W hq
  replace hq := hgn W e hq
  clear hgn k
  obtain ⟨hT, ⟨he, v, rfl, ho, hR⟩ | ⟨he, rfl⟩⟩ := hq
  · obtain ⟨b, cap, rfl, hb, hc⟩ := bytes_of (by omega) (hz he) ho
    obtain ⟨y, hy⟩ : ∃ y : Addr, (⟨b, 0, none⟩ : Addr) = y := ⟨_, rfl⟩
    rw [hy] at hc ⊢
    clear hy hz
    go_wp2_with fail
    go_loopw [3, 9] (fun t3 t9 wr => ∃ i : Nat, i ≤ 8 ∧ t9 = .int .i64 (i : Int) ∧ t3 = .int .i64 (IntKind.i64.wrap (numTo l ⟨p, 0⟩ i : Int)) ∧ wr = W) (fun _ t9 _ => 8 - (Go.RowKit.intOf t9).toNat)
    case atStart => exact ⟨0, by omega, rfl, rfl, rfl⟩
    case round =>
      obtain ⟨i, hi, rfl, rfl, rfl⟩ := hrel
      by_cases hlt : i < 8
      · have hv := numTo_lt l ⟨p, 0⟩ i
        have hu := u8V_lt l (numR l ⟨p, 0⟩ i)
        have hc1 := hc i hlt
        have hnx : numTo l ⟨p, 0⟩ (i + 1) = numTo l ⟨p, 0⟩ i * 256 + u8V l (numR l ⟨p, 0⟩ i) := rfl
        have hb2 : numTo l ⟨p, 0⟩ i * 256 < 18446744073709551616 := by
          have : 256 ^ (i + 1) ≤ 256 ^ 8 := Nat.pow_le_pow_right (by decide) (by omega)
          rw [Nat.pow_succ] at this
          omega
        generalize numTo l ⟨p, 0⟩ i = x at *
        generalize u8V l (numR l ⟨p, 0⟩ i) = c at *
        have hor := bits_or_word x c hb2 hu
        have hwx : IntKind.i64.wrap (x : Int) = (x : Int) := by rw [IntKind.wrap_i64]; omega
        have hwc : IntKind.i64.wrap (c : Int) = (c : Int) := by rw [IntKind.wrap_i64]; omega
        rw [hwx]
        have hw64 : IntKind.i64.wrap ((x : Int) * 256) = wrap64 ((x : Int) * 256) := by rw [IntKind.wrap_i64]; unfold wrap64; omega
        clear hv hc
        go_wp2_with fail
        exact ⟨⟨i + 1, by omega, by simp, by rw [hnx]; exact congrArg (Value.int IntKind.i64) (hw64 ▸ hor), trivial⟩, by simp [Go.RowKit.intOf]; omega⟩
      · obtain rfl : i = 8 := by omega
        clear hc
        go_wp2_with fail
        go_ret
        exact ⟨hT, .inl ⟨he, _, rfl, rfl, hR⟩⟩
  · refine died ?_
    exact ⟨hT, .inr ⟨he, rfl⟩⟩
/-! Rows that are filled element by element. -/
theorem heap_setCell_at {w : World} {b o : Nat} {c : Array Value} {t : TypeId} {fr : Nat × Nat} (v : Value) (h : w.heap[b]? = some (.cells c t fr)) : (w.setCell ⟨b, o, none⟩ v).heap[b]? = some (.cells (c.setIfInBounds o v) t fr) := by
  have hb := (Array.getElem?_eq_some_iff.1 h).1
  have he := (Array.getElem?_eq_some_iff.1 h).2
  simp only [World.setCell, Array.getElem?_modify]
  simp [hb, he]
structure RowB (W : World) (b : Nat) (T : TypeId) (cs : List Value) : Prop where
  heap : W.heap[b]? = some (.cells cs.toArray T (0, 0))
section
variable {W W' : World} {b k : Nat} {T : TypeId} {cs : List Value} {v : Value}
theorem RowB.same (h : RowB W b T cs) (hb : W'.heap[b]? = W.heap[b]?) : RowB W' b T cs := ⟨hb.trans h.heap⟩
theorem RowB.lt (h : RowB W b T cs) : b < W.heap.size := (Array.getElem?_eq_some_iff.1 h.heap).1
theorem RowB.cell (h : RowB W b T cs) (k : Nat) : W.cell? ⟨b, k, none⟩ = cs[k]? := by
  simp [World.cell?, h.heap]
theorem RowB.free (h : RowB W b T cs) (k : Nat) : W.frozen? ⟨b, k, none⟩ = false := by
  simp [World.frozen?, h.heap]
theorem RowB.set (h : RowB W b T cs) (k : Nat) (v : Value) : RowB (W.setCell ⟨b, k, none⟩ v) b T (cs.set k v) := by
  constructor
  rw [heap_setCell_at (o := k) v h.heap]
  simp
theorem rowb_alloc (w : World) (cur : Array Value) (T : TypeId) : RowB (w.alloc (.cells cur T)) w.heap.size T cur.toList := ⟨by rw [heap_alloc_new]⟩
end
theorem make_any {α : Type} {e t : TypeId} {sz : Nat} {f : α → List Value} (hE : ElemOk e t sz f) (w : World) (n : Nat) (hn : n ≤ 1000) : ∃ cur : Array Value, cur.size = n * sz ∧ (Instr.makeSlice t (.int .i64 (n : Int)) (.int .i64 (n : Int))).run Try.prog w = .ok (.slice (some ⟨w.heap.size, 0, none⟩) n n) (w.alloc (.cells cur e)) := by
  obtain ⟨i, z, b, hi, hz, hs, hb, hzs, hbb⟩ := hE.info
  have hq : b * n ≤ 10000 * 1000 := Nat.mul_le_mul hbb hn
  have h := run_make (P := Try.prog) w t e i _ hE.und hi hz .i64 .i64 n n (by omega) (by omega) (by
    rw [hb]
    have : ((b * n : Nat) : Int) ≤ ((10000 * 1000 : Nat) : Int) := by exact_mod_cast hq
    rw [Int.natCast_mul] at this
    omega) (by omega)
  refine ⟨_, ?_, h⟩
  rw [hs]
  simp [madeCells]
theorem OwnR.made {α : Type} {e : TypeId} {sz : Nat} {f : α → List Value} {W : World} {b n base : Nat} {cs : List Value} (l : List α) (hb : base ≤ b) (h : RowB W b e cs) (hn : l.length = n) (hc : cs.length = n * sz) (hm : n < 1000) (hf : ∀ x, (f x).length = sz) (ht : cs.take (n * sz) = l.flatMap f) : OwnR e sz f W base (.slice (some ⟨b, 0, none⟩) n n) l := by
  refine ⟨by rw [flat_length hf], .inr ⟨b, n, cs.toArray, by rw [hn], hb, h.heap, by omega, by simp only [maxLen]; omega, by simpa using hc, ?_⟩⟩
  rw [hn]
  exact ht
/-! What is panicked among grants, or words, is what is wrong with them all. -/
theorem grT_end {l : List UInt8} {r : Rd} {i n : Nat} (h : (grT l r i).2.err = 0) (hi : i < n) (hb : (u8R l (textR l (grT l r i).2)).err ≠ 0) : (grT l r n).2 = u8R l (textR l (grT l r i).2) := by
  have e : grT l r (i + 1) = ((grT l r i).1 ++ [⟨textV l (grT l r i).2, ((u8V l (textR l (grT l r i).2) : Nat) : Int)⟩], u8R l (textR l (grT l r i).2)) := by rw [grT, if_pos h]
  have := grT_stop (l := l) (r := r) (i := i + 1) (by rw [e]; exact hb) (n - (i + 1))
  rw [show i + 1 + (n - (i + 1)) = n by omega] at this
  rw [this, e]
theorem wdT_end {l : List UInt8} {r : Rd} {i n : Nat} (h : (wdT l r i).2.err = 0) (hi : i < n) (hb : (numR8 l (wdT l r i).2).err ≠ 0) : (wdT l r n).2 = numR8 l (wdT l r i).2 := by
  have e : wdT l r (i + 1) = ((wdT l r i).1 ++ [numV l (wdT l r i).2], numR8 l (wdT l r i).2) := by rw [wdT, if_pos h]
  have := wdT_stop (l := l) (r := r) (i := i + 1) (by rw [e]; exact hb) (n - (i + 1))
  rw [show i + 1 + (n - (i + 1)) = n by omega] at this
  rw [this, e]
theorem take_set {cs : List Value} {k m : Nat} {v : Value} (h : m ≤ k) : (cs.set k v).take m = cs.take m := by
  rw [List.take_set_of_le h]
theorem take_next {cs xs : List Value} {m : Nat} {v : Value} (hm : m < cs.length) (h : cs.take m = xs) : (cs.set m v).take (m + 1) = xs ++ [v] := by
  rw [List.take_add_one, take_set (Nat.le_refl _), h, List.getElem?_set_self hm]
  rfl
end Go.Proofs.Ytecleampjeebaaa
