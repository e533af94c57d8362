/-
  A SALT'S EIGHT BYTES, AND THE DOCUMENT'S OWN Of; rows of bytes of one's own.
-/
import Derived.Test.YtajondkpdgiolaaHashBase
import Derived.Laws.AppendOwnNone
namespace Go.Proofs.Ytajondkpdgiolaa
open Go.RowKit
set_option maxRecDepth 8000
set_option linter.unusedSimpArgs false
set_option linter.unusedVariables false

/-- The first k of a salt's eight bytes, the highest first. -/
def saltTo (s k : Nat) : List UInt8 := (List.range k).map fun j => UInt8.ofNat (s / 2 ^ (8 * (7 - j)))
theorem saltTo_succ (s k : Nat) : saltTo s (k + 1) = saltTo s k ++ [UInt8.ofNat (s / 2 ^ (8 * (7 - k)))] := by simp [saltTo, List.range_succ]
theorem saltTo_len (s k : Nat) : (saltTo s k).length = k := by simp [saltTo]
/-- What a salt and a word come to. -/
def saltN (x : Int) : Nat := (x % 18446744073709551616).toNat
def ofN (x : Int) (l : List UInt8) : Nat := chain (chain 14695981039346656037 (saltTo (saltN x) 8)) l
theorem saltN_lt (x : Int) : saltN x < 18446744073709551616 := by unfold saltN; omega
theorem start_lt : (14695981039346656037 : Nat) < 18446744073709551616 := by decide
theorem ofN_lt (x : Int) (l : List UInt8) : ofN x l < 18446744073709551616 := chain_lt (chain_lt start_lt _) _

/-- A row of bytes of the call's own. -/
def valsB (l : List UInt8) : List Value := l.map fun c => .int .u8 (c.toNat : Int)
theorem valsB_len (l : List UInt8) : (valsB l).length = l.length := by simp [valsB]
def OwnB (w : World) (base : Nat) (v : Value) (l : List UInt8) : Prop := w.ownsRow base 5 1 v l.length (valsB l)
theorem ownB_nil (w : World) (base : Nat) : OwnB w base (.slice none 0 0) [] := World.ownsRow_nil _ _ _ _
theorem OwnB.slice {w : World} {base : Nat} {v : Value} {l : List UInt8} (h : OwnB w base v l) : ∃ a cap, v = .slice a l.length cap ∧ BytesAt w a l.length l := by
  have hrow : w.ownsRow base 5 1 v l.length (valsB l) := h
  rcases h.2 with ⟨rfl, h2⟩ | ⟨g, cap, cur, rfl, _⟩
  · exact ⟨none, 0, by rw [h2], rfl, fun j hj => by omega⟩
  · refine ⟨_, cap, rfl, rfl, fun j hj => ⟨_, rfl, ?_⟩⟩
    rw [add_at g j, hrow.cellAt j (by omega)]
    simp [valsB, List.getElem?_eq_getElem hj, List.getD_eq_getElem?_getD]
theorem OwnB.below {w w' : World} {base : Nat} {v : Value} {l : List UInt8} (h : OwnB w base v l) (b : Below w.heap.size w w') : OwnB w' base v l := by
  refine ⟨h.1, ?_⟩
  rcases h.2 with h1 | ⟨g, cap, cur, hv, hb, hg, rest⟩
  · exact .inl h1
  · exact .inr ⟨g, cap, cur, hv, hb, (b.block g (Array.getElem?_eq_some_iff.1 hg).1).trans hg, rest⟩
theorem info_u8 : (Try.prog.info? 5).map (fun i => (i.zero, i.size, i.bytes)) = some (some (.int .u8 0), 1, 1) := by kernel_rfl
theorem info_u8s : ∃ i, Try.prog.info? 5 = some i ∧ i.zero = some (.int .u8 0) ∧ i.size = 1 ∧ i.bytes = 1 := by
  have := info_u8
  cases h : Try.prog.info? 5 with
  | none => rw [h] at this; cases this
  | some i =>
    rw [h] at this
    have hq : (i.zero, i.size, i.bytes) = (some (.int .u8 0), 1, 1) := by simpa using this
    exact ⟨i, rfl, congrArg Prod.fst hq, congrArg (fun p => p.2.1) hq, congrArg (fun p => p.2.2) hq⟩
/-- append of bytes that lie anywhere. -/
theorem append_bytes (W : World) (base : Nat) (v : Value) (l : List UInt8) (y : Addr) (n cap : Nat) (r : List UInt8) (hr : BytesAt W (some y) n r) (hc : n ≤ cap) (hown : OwnB W base v l) (hb : base ≤ W.heap.size) (hl : l.length < 900000) (hn : n < 900000) :
    ∃ v' W', (Builtin.append_ #[30, 30] 30 #[v, .slice (some y) n cap]).run Try.prog W = .ok v' W' ∧ OwnB W' base v' (l ++ r) ∧ Below base W W' := by
  obtain ⟨i, hi, hz, hs, hby⟩ := info_u8s
  have ho : W.ownsRow base 5 1 v l.length (valsB l) := hown
  obtain ⟨v', W', h1, h2, h3, _⟩ := run_append_own (P := Try.prog) W base 30 30 5 i _ 1 1 Try.underlying30 hi hz hs hby rfl (by decide) v l.length (valsB l) ho y n cap (valsB r) (by rw [valsB_len, hr.1]; omega) (fun j u hu => by
    have hj : j < r.length := by have := (List.getElem?_eq_some_iff.1 hu).1; rwa [valsB_len] at this
    obtain ⟨y', hy', hcell⟩ := hr.2 j (by rw [← hr.1]; exact hj)
    injection hy' with hy'
    subst hy'
    rw [hcell, ← hu]
    simp [valsB, List.getElem?_eq_getElem hj, List.getD_eq_getElem?_getD]) (by
      intro u hu
      obtain ⟨c, _, rfl⟩ := List.mem_map.1 hu
      simp [Value.oneCell']) (by simp only [maxLen]; omega) (by omega) (by omega)
  refine ⟨v', W', h1, ?_, ?_⟩
  · unfold OwnB valsB
    rw [List.map_append, List.length_append, hr.1]
    exact h2
  · exact (Below.refl base W).grown h3 hb (fun k hk => (ho.lt k hk).1)
theorem append_bytes_any (W : World) (base : Nat) (v : Value) (l : List UInt8) (a : Option Addr) (n cap : Nat) (r : List UInt8) (hr : BytesAt W a n r) (hz : a = none → cap = 0) (hc : n ≤ cap) (hown : OwnB W base v l) (hb : base ≤ W.heap.size) (hl : l.length < 900000) (hn : n < 900000) :
    ∃ v' W', (Builtin.append_ #[30, 30] 30 #[v, .slice a n cap]).run Try.prog W = .ok v' W' ∧ OwnB W' base v' (l ++ r) ∧ Below base W W' := by
  cases a with
  | some y => exact append_bytes W base v l y n cap r hr hc hown hb hl hn
  | none =>
    obtain rfl := hz rfl
    obtain rfl : n = 0 := by omega
    obtain rfl : r = [] := List.eq_nil_of_length_eq_zero hr.1
    obtain ⟨i, hi, _, hs, _⟩ := info_u8s
    have ho : W.ownsRow base 5 1 v l.length (valsB l) := hown
    refine ⟨v, W, run_append_owned_none (P := Try.prog) (w := W) base 30 30 5 i 1 Try.underlying30 hi v l.length (valsB l) ho, by rw [List.append_nil]; exact hown, Below.refl _ _⟩
section
variable {ops : Array Oper} {rest : List Oper} {o : Oper} {a : Act} {w : World} {Q : Exit → Act → World → Prop}
/-- append, by its run. -/
theorem wpList_append_u8 (hg : o.guard = none) (x y : Operand) (ho : o.op = .call { callee := .builtin .append, args := #[x, y], argTypes := #[30, 30] }) (hty : o.type = 30) {u v r : Value} {w' : World} (hx : a.eval x = u) (hy : a.eval y = v)
    (hc : (Builtin.append_ #[30, 30] 30 #[u, v]).run Try.prog w = .ok r w')
    (h : wpList Try.prog ops Q rest (a.put o.dst r) w') : wpList Try.prog ops Q (o :: rest) a w := by
  refine wpList_value hg ?_ h
  unfold execOp
  simp only [ho, hty, resolve, invoke, builtin, Sem.run_bind, Sem.run_pure, Result.andThen_ok]
  simp [hx, hy, hc, Result.andThen]
end
/-- A text as bytes, in a row of its own. -/
theorem conv_str (w : World) (u : ByteArray) : ∃ cap W, (convert 9 30 (.string u)).run Try.prog w = .ok (.slice (some ⟨w.heap.size, 0, none⟩) u.size cap) W ∧ BytesAt W (some ⟨w.heap.size, 0, none⟩) u.size u.data.toList ∧ Below w.heap.size w W := by
  have hr := Go.Lib.run_convert_string_bytes (P := Try.prog) w 9 30 5 u Try.underlying9 Try.underlying30 Try.underlying5
  refine ⟨_, _, hr, ⟨Array.length_toList, fun j hj => ⟨_, rfl, ?_⟩⟩, ⟨rfl, rfl, rfl, by rw [Go.Lib.bytesWorld_size]; omega, fun k hk => Go.Lib.bytesWorld_at_old w _ _ k hk⟩⟩
  rw [add_at w.heap.size j, Go.Lib.bytesWorld_cell w _ _ j hj]

end Go.Proofs.Ytajondkpdgiolaa
