/-
  WHAT IS WRITTEN BEHIND BYTES: a text, a label, a number (donjonref10).
-/
import Derived.Test.YtajondkpdgiolaaHashOf
import Derived.Test.YtajondkpdgiolaaLabs
import Derived.Test.YtajondkpdgiolaaGrew
namespace Go.Proofs.Ytajondkpdgiolaa
open Go.RowKit
set_option maxRecDepth 8000
set_option linter.unusedSimpArgs false
set_option linter.unusedVariables false

/-- A number's lowest eight bits. -/
def lowB (x : Int) : UInt8 := UInt8.ofNat (x % 256).toNat
theorem lowB_nat (x : Int) : ((lowB x).toNat : Int) = x % 256 := by
  unfold lowB
  simp [UInt8.toNat_ofNat']
  omega
def encT (s : ByteArray) : List UInt8 := lowB s.size :: s.data.toList
def encL (l : Lab) : List UInt8 := [lowB l.s, lowB l.c, lowB l.i, lowB l.k]
def encW (n : Int) : List UInt8 := saltTo (saltN n) 8
theorem encT_len (s : ByteArray) : (encT s).length = s.size + 1 := by simp [encT]
theorem encL_len (l : Lab) : (encL l).length = 4 := rfl
theorem encW_len (n : Int) : (encW n).length = 8 := saltTo_len _ _
theorem wrap_u8 (x : Int) : IntKind.u8.wrap x = ((lowB x).toNat : Int) := by rw [lowB_nat, IntKind.wrap_u8]

/-- append of bytes that lie anywhere. -/
theorem append_at (W : World) (base : Nat) (v : Value) (l : List UInt8) (y : Addr) (n cap : Nat) (r : List UInt8) (hr : BytesAt W (some y) n r) (hown : OwnB W base v l) (hb : base ≤ W.heap.size) (hl : l.length < 900000) (hn : n < 900000) :
    ∃ v' W', (Builtin.append_ #[30, 30] 30 #[v, .slice (some y) n cap]).run Try.prog W = .ok v' W' ∧ OwnB W' base v' (l ++ r) ∧ Grew W v W' v' := by
  obtain ⟨i, hi, hz, hs, hby⟩ := info_u8s
  have ho : W.ownsRow base 5 1 v l.length (valsB l) := hown
  obtain ⟨v', W', h1, h2, h3⟩ := run_append_grew (P := Try.prog) W base 30 30 5 i _ 1 1 Try.underlying30 hi hz hs hby rfl (by decide) v l.length (valsB l) ho y n cap (valsB r) (by rw [valsB_len, hr.1]; omega) (fun j u hu => by
    have hj : j < r.length := by have := (List.getElem?_eq_some_iff.1 hu).1; rwa [valsB_len] at this
    obtain ⟨y', hy', hcell⟩ := hr.2 j (by rw [← hr.1]; exact hj)
    injection hy' with hy'
    subst hy'
    rw [hcell, ← hu]
    simp [valsB, List.getElem?_eq_getElem hj, List.getD_eq_getElem?_getD]) (by
      intro u hu
      obtain ⟨c, _, rfl⟩ := List.mem_map.1 hu
      simp [Value.oneCell']) (by simp only [maxLen]; omega) (by omega) hb
  refine ⟨v', W', h1, ?_, h3⟩
  unfold OwnB valsB
  rw [List.map_append, List.length_append, hr.1]
  exact h2
theorem bytes_made (W : World) (r : List UInt8) (cs : Array Value) (hcs : cs = (valsB r).toArray) : BytesAt (W.alloc (.cells cs 5)) (some ⟨W.heap.size, 0, none⟩) r.length r := by
  refine ⟨rfl, fun j hj => ⟨_, rfl, ?_⟩⟩
  rw [add_at, World.cell?_alloc_at _ _ _ _ rfl, hcs]
  simp [valsB, List.getElem?_eq_getElem hj, List.getD_eq_getElem?_getD]
theorem BytesAt.grew {W W' : World} {v v' : Value} {g n : Nat} {l : List UInt8} (h : BytesAt W (some ⟨g, 0, none⟩) n l) (k : Grew W v W' v') (hg : g < W.heap.size) (hne : some g ≠ v.ownBlock) : BytesAt W' (some ⟨g, 0, none⟩) n l := by
  refine ⟨h.1, fun j hj => ?_⟩
  obtain ⟨y, hy, hc⟩ := h.2 j hj
  refine ⟨y, hy, ?_⟩
  obtain rfl := Option.some.inj hy
  rw [add_at] at hc ⊢
  rw [k.cell (a := ⟨g, j, none⟩) hg hne]
  exact hc
theorem Grew.ownB {W W' : World} {v v' : Value} (k : Grew W v W' v') {base : Nat} {l : List UInt8} (h : OwnB W base v l) (hb : base ≤ W.heap.size) : Below base W W' := k.below hb fun j hj => (World.ownsRow.lt (show W.ownsRow base 5 1 v l.length (valsB l) from h) j hj).1
theorem OwnB.apart {W : World} {base : Nat} {v : Value} {l : List UInt8} (h : OwnB W base v l) : some W.heap.size ≠ v.ownBlock := fun e => by
  have := (World.ownsRow.lt (show W.ownsRow base 5 1 v l.length (valsB l) from h) _ e.symm).2
  omega
/-- append of a row that was just made. -/
theorem append_made (W : World) (base : Nat) (v : Value) (l : List UInt8) (r : List UInt8) (cs : Array Value) (hcs : cs = (valsB r).toArray) (hown : OwnB W base v l) (hb : base ≤ W.heap.size) (hl : l.length < 900000) (hn : r.length < 900000) :
    ∃ v' W', (Builtin.append_ #[30, 30] 30 #[v, .slice (some ⟨W.heap.size, 0, none⟩) r.length r.length]).run Try.prog (W.alloc (.cells cs 5)) = .ok v' W' ∧ OwnB W' base v' (l ++ r) ∧ Grew W v W' v' := by
  obtain ⟨v', W', h1, h2, h3⟩ := append_at _ base v l ⟨W.heap.size, 0, none⟩ r.length r.length r (bytes_made W r cs hcs) (hown.below (alloc_below _ _)) (by simp; omega) hl hn
  exact ⟨v', W', h1, h2, (Grew.alloc W v _).trans h3⟩
/-- append of a text's bytes. -/
theorem append_text (W : World) (base : Nat) (v : Value) (l : List UInt8) (s : ByteArray) (hown : OwnB W base v l) (hb : base ≤ W.heap.size) (hl : l.length < 900000) (hn : s.size < 900000) :
    ∃ v' W', (Builtin.append_ #[30, 9] 30 #[v, .string s]).run Try.prog W = .ok v' W' ∧ OwnB W' base v' (l ++ s.data.toList) ∧ Grew W v W' v' := by
  obtain ⟨i, hi, hz, hs, hby⟩ := info_u8s
  have ho : W.ownsRow base 5 1 v l.length (valsB l) := hown
  obtain ⟨v', W', h1, h2, h3⟩ := run_append_str_grew (P := Try.prog) W base 30 9 30 5 i Try.underlying30 Try.underlying9 hi hz hs hby v l.length (valsB l) ho s (by simp only [maxLen]; omega) (by omega) hb
  refine ⟨v', W', h1, ?_, h3⟩
  unfold OwnB valsB
  rw [List.map_append, List.length_append, Array.length_toList]
  exact h2
section
variable {ops : Array Oper} {rest : List Oper} {o : Oper} {a : Act} {w : World} {Q : Exit → Act → World → Prop}
theorem step_append_u8 {K : Act → World → Prop} {E : Prop} (hg : o.guard = none) (s x : Operand) (hop : o.op = Op.call { callee := Callee.builtin Builtin.append, args := #[s, x], argTypes := #[30, 30] }) (hty : o.type = 30) {u v r : Value} {w' : World} (hs : a.eval s = u) (hx : a.eval x = v)
    (hrun : (Builtin.append_ #[30, 30] 30 #[u, v]).run Try.prog w = .ok r w') (hK : K (a.put o.dst r) w') :
    if Region.wanted o (yielded ops a.tmps) = true then Oper.wp Try.prog o a w K Q else E := by
  have hw : Region.wanted o (yielded ops a.tmps) = true := by simp [Region.wanted, hg]
  rw [if_pos hw]
  unfold Oper.wp
  simp [execOp, hop, hty, resolve, invoke, builtin, hs, hx, hrun, Result.andThen]
  exact hK
/-- append of a text, by its run. -/
theorem wpList_append_txt (hg : o.guard = none) (x y : Operand) (ho : o.op = .call { callee := .builtin .append, args := #[x, y], argTypes := #[30, 9] }) (hty : o.type = 30) {u v r : Value} {w' : World} (hx : a.eval x = u) (hy : a.eval y = v)
    (hc : (Builtin.append_ #[30, 9] 30 #[u, v]).run Try.prog w = .ok r w')
    (h : wpList Try.prog ops Q rest (a.put o.dst r) w') : wpList Try.prog ops Q (o :: rest) a w := by
  refine wpList_value hg ?_ h
  unfold execOp
  simp only [ho, hty, resolve, invoke, builtin, Sem.run_bind, Sem.run_pure, Result.andThen_ok]
  simp [hx, hy, hc, Result.andThen]
end



end Go.Proofs.Ytajondkpdgiolaa
