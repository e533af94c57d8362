/-
  APPEND, LETTERS: rows of a call's own that grow; texts of one byte.
-/
import Derived.Test.YtbbmeclngopbmaaAclRow
import Derived.Test.YtbbmeclngopbmaaAclCheck
import Derived.Laws.AppendOwn
namespace Go.Proofs.Ytbbmeclngopbmaa
open Go.RowKit

/-- A list of the call's own. -/
def Own (w : World) (base : Nat) (v : Value) (l : List Gr) : Prop := w.ownsRow base 40 2 v l.length (cellsG l)
theorem own_nil (w : World) (base : Nat) : Own w base (.slice none 0 0) [] := World.ownsRow_nil _ _ _ _
theorem Own.gat {w : World} {base : Nat} {v : Value} {l : List Gr} (h : Own w base v l) : ∃ a cap, v = .slice a l.length cap ∧ GAt w a l ∧ l.length ≤ cap := by
  rcases h.2 with ⟨rfl, hn⟩ | ⟨g, cap, cur, rfl, _, hg, hle, _, hsz, htk⟩
  · have : l = [] := List.length_eq_zero_iff.1 hn
    subst this
    exact ⟨none, 0, rfl, gat_nil _ _, Nat.le_refl _⟩
  · refine ⟨_, cap, rfl, gat_row hg l fun j hj => ?_, hle⟩
    rw [← htk, List.getElem?_take_of_lt hj]
    simp
theorem Own.below {w w' : World} {base : Nat} {v : Value} {l : List Gr} (h : Own w base v l) (b : Below w.heap.size w w') : Own w' base v l := by
  refine ⟨h.1, ?_⟩
  rcases h.2 with h1 | ⟨g, cap, cur, hv, hb, hg, rest⟩
  · exact .inl h1
  · exact .inr ⟨g, cap, cur, hv, hb, (b.block g (Array.getElem?_eq_some_iff.1 hg).1).trans hg, rest⟩
/-- append, to a list of the call's own. -/
theorem append_gr (w : World) (base : Nat) (v : Value) (l : List Gr) (hown : Own w base v l) (a : Option Addr) (R : List Gr) (cap n : Nat) (hn : R.length = n) (hG : GAt w a R) (hb : base ≤ w.heap.size) (hl : l.length + R.length < 1000) :
    ∃ v' W', (Builtin.append_ #[22, 22] 22 #[v, .slice a n cap]).run Try.prog w = .ok v' W' ∧ Own W' base v' (l ++ R) ∧ Below base w W' ∧ w.grownBy W' v.ownBlock := by
  obtain ⟨i, hi, hz, hs, hby⟩ := info_grs
  cases a with
  | some x =>
    obtain ⟨v', W', h1, h2, h3, _⟩ := run_append_own (P := Try.prog) w base 22 22 40 i _ 2 24 Try.underlying22 hi hz hs hby rfl (by decide) v l.length (cellsG l) hown x n cap (cellsG R) (by rw [cellsG_len, hn]) hG.cells (cellsG_one R) (by simp only [maxLen]; omega) (by omega) hb
    refine ⟨v', W', h1, ?_, ?_, h3⟩
    · unfold Own
      rw [cellsG_append, List.length_append, hn]
      exact h2
    · exact (Below.refl _ _).grown h3 hb (fun k hk => (hown.lt k hk).1)
  | none =>
    have hR : R = [] := by
      cases R with
      | nil => rfl
      | cons y r => obtain ⟨x, hx, _⟩ := hG 0 y rfl; cases hx
    subst hR
    obtain rfl : n = 0 := hn.symm
    refine ⟨v, w, ?_, by rw [List.append_nil]; exact hown, Below.refl _ _, ⟨rfl, rfl, rfl, Nat.le_refl _, fun _ _ _ => rfl⟩⟩
    obtain ⟨a', c', rfl, _, hle⟩ := hown.gat
    cases a' <;> simp [Builtin.append_, run_underlying Try.underlying22, Builtin.lenOf, Builtin.firstCells, sizeOf, typeInfo, hi, hle, storeCells]
section
variable {ops : Array Oper} {rest : List Oper} {o : Oper} {a : Act} {w : World} {Q : Exit → Act → World → Prop}
theorem wpList_value {P : Program} (hg : o.guard = none) {v : Value} {w' : World} (hx : (execOp a.eval o).run P w = .ok (.value v) w') (h : wpList P ops Q rest (a.put o.dst v) w') : wpList P ops Q (o :: rest) a w :=
  wpList_plain hg fun _ hK => by
    unfold Oper.wp
    rw [hx]
    exact hK _ _ h
/-- append, by its run. -/
theorem wpList_append_gr (hg : o.guard = none) (x y : Operand) (ho : o.op = .call { callee := .builtin .append, args := #[x, y], argTypes := #[22, 22] }) (hty : o.type = 22) {u v r : Value} {w' : World} (hx : a.eval x = u) (hy : a.eval y = v)
    (hc : (Builtin.append_ #[22, 22] 22 #[u, v]).run Try.prog w = .ok r w')
    (h : wpList Try.prog ops Q rest (a.put o.dst r) w') : wpList Try.prog ops Q (o :: rest) a w := by
  refine wpList_value hg ?_ h
  unfold execOp
  simp only [ho, hty, resolve, invoke, builtin, Sem.run_bind, Sem.run_pure, Result.andThen_ok]
  simp [hx, hy, hc, Result.andThen]
end
/-- append of one that was typed. -/
theorem append_one (W : World) (base : Nat) (v : Value) (l : List Gr) (u : ByteArray) (m : Int) (hown : Own W base v l) (hb : base ≤ W.heap.size) (hl : l.length < 900) :
    ∃ v' W', (Builtin.append_ #[22, 22] 22 #[v, .slice (some ⟨W.heap.size, 0, none⟩) 1 1]).run Try.prog (W.alloc (.cells #[.string u, .int .i64 m] 40)) = .ok v' W' ∧ Own W' base v' (l ++ [⟨u, m⟩]) ∧ Below base W W' := by
  have hG : GAt (W.alloc (.cells #[.string u, .int .i64 m] 40)) (some ⟨W.heap.size, 0, none⟩) [⟨u, m⟩] := gat_row (heap_alloc_new W _) _ (fun j _ => by simp [cellsG])
  obtain ⟨v', W', h1, h2, h3, _⟩ := append_gr (W.alloc (.cells #[.string u, .int .i64 m] 40)) base v l (hown.below (alloc_below _ _)) _ [⟨u, m⟩] 1 1 rfl hG (by simp; omega) (by simp; omega)
  exact ⟨v', W', h1, h2, ((alloc_below W _).mono hb).trans h3⟩
/-- A text of one byte. -/
def chr (k : Nat) : ByteArray := ⟨#[UInt8.ofNat k]⟩
theorem conv_chr (w : World) (k : Nat) (hk : k < 256) : (convert 42 9 (.slice (some ⟨w.heap.size, 0, none⟩) 1 1)).run Try.prog (w.alloc (.cells #[.int .u8 (k : Int)] 5)) = .ok (.string (chr k)) (w.alloc (.cells #[.int .u8 (k : Int)] 5)) := by
  refine run_convert_bytes_back _ _ _ 5 ⟨w.heap.size, 0, none⟩ 1 [UInt8.ofNat k] Try.underlying42 Try.underlying5 Try.underlying9 fun j hj => ?_
  obtain rfl : j = 0 := by simp at hj; omega
  rw [show (⟨w.heap.size, 0, none⟩ : Addr).add 0 = ⟨w.heap.size, 0, none⟩ by simp [Addr.add], World.cell?_alloc_at _ _ _ _ rfl]
  simp
  omega
theorem may_chr : ∀ k, 97 ≤ k → k ≤ 122 → may (chr k) = true := by
  intro k h1 h2
  have : okB (UInt8.ofNat k) = true := by
    have e : (UInt8.ofNat k).toNat = k := by simp; omega
    simp [okB, e, h1, h2]
  have hn : name (chr k) = true := by
    have hs : (chr k).size = 1 := rfl
    have ha : (chr k).data.toList.all okB = true := by simp [chr, this]
    rw [name, hs, ha]
    rfl
  simp [may, hn]
theorem lt_lits' {a b : ByteArray} (h : Op.bytesLess a.data.toList b.data.toList = true) : lt a b = true := by unfold lt; rw [toL, toL]; exact h
theorem lt_chr {i j : Nat} (h : i < j) (hj : j < 256) : lt (chr i) (chr j) = true := by
  refine lt_lits' ?_
  have h1 : UInt8.ofNat i < UInt8.ofNat j := by
    rw [UInt8.lt_iff_toNat_lt]
    simp
    omega
  simp [chr, Op.bytesLess, h1]
theorem chk_bad {l : List Gr} (hl : l.length ≤ 4) {g : Gr} (hg : g ∈ l) (hb : may g.u = false ∨ g.m < 1 ∨ 7 < g.m) : chk l = 1 := by
  unfold chk
  rw [if_neg (by omega)]
  split
  · rename_i h
    have := okL_all _ _ h g hg
    rcases hb with hb | hb | hb
    · rw [hb] at this; cases this.1
    · omega
    · omega
  · rfl

theorem heap_setCell_at {w : World} {b o : Nat} {c : Array Value} {t : TypeId} {fr : Nat × Nat} (v : Value) (h : w.heap[b]? = some (.cells c t fr)) : (w.setCell ⟨b, o, none⟩ v).heap[b]? = some (.cells (c.setIfInBounds o v) t fr) := by
  have hb := (Array.getElem?_eq_some_iff.1 h).1
  have he := (Array.getElem?_eq_some_iff.1 h).2
  simp only [World.setCell, Array.getElem?_modify]
  simp [hb, he]
theorem cellsG_set_m : ∀ (l : List Gr) (q : Nat) (u : ByteArray) (m m' : Int), l[q]? = some ⟨u, m⟩ → cellsG (l.set q ⟨u, m'⟩) = (cellsG l).set (q * 2 + 1) (.int .i64 m')
  | [], q, u, m, m', h => by simp at h
  | g :: r, 0, u, m, m', h => by simp at h; subst h; rfl
  | g :: r, q + 1, u, m, m', h => by
    have ih := cellsG_set_m r q u m m' (by simpa using h)
    rw [List.set_cons_succ, cellsG, ih, cellsG, show (q + 1) * 2 + 1 = (q * 2 + 1) + 1 + 1 by omega, List.set_cons_succ, List.set_cons_succ]
theorem cellsG_set_u : ∀ (l : List Gr) (q : Nat) (u u' : ByteArray) (m : Int), l[q]? = some ⟨u, m⟩ → cellsG (l.set q ⟨u', m⟩) = (cellsG l).set (q * 2) (.string u')
  | [], q, u, u', m, h => by simp at h
  | g :: r, 0, u, u', m, h => by simp at h; subst h; rfl
  | g :: r, q + 1, u, u', m, h => by
    have ih := cellsG_set_u r q u u' m (by simpa using h)
    rw [List.set_cons_succ, cellsG, ih, cellsG, show (q + 1) * 2 = (q * 2) + 1 + 1 by omega, List.set_cons_succ, List.set_cons_succ]
theorem own_turn {w : World} {base : Nat} {v : Value} {l : List Gr} (h : Own w base v l) {q : Nat} {u : ByteArray} {m : Int} (hq : l[q]? = some ⟨u, m⟩) :
    ∃ g cap, v = .slice (some ⟨g, 0, none⟩) l.length cap ∧ base ≤ g ∧ w.cell? ⟨g, q * 2, none⟩ = some (.string u) ∧ w.cell? ⟨g, q * 2 + 1, none⟩ = some (.int .i64 m) ∧ (∀ j, w.frozen? ⟨g, j, none⟩ = false) ∧
      (∀ m', GAt (w.setCell ⟨g, q * 2 + 1, none⟩ (.int .i64 m')) (some ⟨g, 0, none⟩) (l.set q ⟨u, m'⟩)) ∧ (∀ u', GAt (w.setCell ⟨g, q * 2, none⟩ (.string u')) (some ⟨g, 0, none⟩) (l.set q ⟨u', m⟩)) := by
  have hql := (List.getElem?_eq_some_iff.1 hq).1
  rcases h.2 with ⟨_, hn⟩ | ⟨g, cap, cur, rfl, hb, hg, hle, _, hsz, htk⟩
  · omega
  · have hcur : ∀ j, j < l.length * 2 → cur[j]? = (cellsG l)[j]? := fun j hj => by
      rw [← htk, List.getElem?_take_of_lt hj]
      simp
    obtain ⟨k1, k2⟩ := cellsG_get l q _ hq
    refine ⟨g, cap, rfl, hb, ?_, ?_, fun j => by simp [World.frozen?, hg], fun m' => gat_row (heap_setCell_at _ hg) _ fun j hj => ?_, fun u' => gat_row (heap_setCell_at _ hg) _ fun j hj => ?_⟩
    · rw [← k1, ← hcur _ (by omega)]; simp [World.cell?, hg]
    · rw [← k2, ← hcur _ (by omega)]; simp [World.cell?, hg]
    · rw [List.length_set] at hj
      rw [cellsG_set_m l q u m m' hq, Array.getElem?_setIfInBounds, List.getElem?_set, cellsG_len, hcur j hj]
      split
      · rw [if_pos (by omega), if_pos (by omega)]
      · rfl
    · rw [List.length_set] at hj
      rw [cellsG_set_u l q u u' m hq, Array.getElem?_setIfInBounds, List.getElem?_set, cellsG_len, hcur j hj]
      split
      · rw [if_pos (by omega), if_pos (by omega)]
      · rfl
end Go.Proofs.Ytbbmeclngopbmaa
