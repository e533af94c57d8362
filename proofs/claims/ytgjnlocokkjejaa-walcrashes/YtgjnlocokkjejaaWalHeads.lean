/-
  LISTS OF SECTORS IN MEMORY: as they are typed, as they are appended.
-/
import Derived.Test.YtgjnlocokkjejaaWalKnown
namespace Go.Proofs.Ytgjnlocokkjejaa
open Go.RowKit Go.Maps

/-- The cells of a list. -/
def cellsC : List PutC → List Value
  | [] => []
  | c :: r => .int .i64 c.N :: .slice c.a c.len c.cap :: cellsC r
theorem cellsC_len : ∀ cs : List PutC, (cellsC cs).length = cs.length * 2
  | [] => rfl
  | c :: r => by simp only [cellsC, List.length_cons, cellsC_len r]; omega
theorem cellsC_get : ∀ (cs : List PutC) (j : Nat) (x : PutC), cs[j]? = some x → (cellsC cs)[j * 2]? = some (.int .i64 x.N) ∧ (cellsC cs)[j * 2 + 1]? = some (.slice x.a x.len x.cap)
  | [], j, x, h => by simp at h
  | c :: r, 0, x, h => by simp at h; subst h; exact ⟨rfl, rfl⟩
  | c :: r, j + 1, x, h => by
    have := cellsC_get r j x (by simpa using h)
    rw [show (j + 1) * 2 = j * 2 + 2 by omega]
    simpa [cellsC] using this
theorem cellsC_append : ∀ (a b : List PutC), cellsC (a ++ b) = cellsC a ++ cellsC b
  | [], b => rfl
  | c :: r, b => by simp only [List.cons_append, cellsC, cellsC_append r b]
theorem cellsC_one (cs : List PutC) : ∀ u ∈ cellsC cs, u.oneCell' = true := by
  induction cs with
  | nil => intro u hu; cases hu
  | cons c r ih =>
    intro u hu
    simp only [cellsC, List.mem_cons] at hu
    rcases hu with rfl | rfl | hu
    · rfl
    · rfl
    · exact ih u hu

/-- A row of cells that is a list. -/
theorem heads_row {w : World} {g : Nat} {cur : Array Value} {t : TypeId} {fr : Nat × Nat} (hb : w.heap[g]? = some (.cells cur t fr)) (cs : List PutC) (hc : ∀ j, j < cs.length * 2 → cur[j]? = (cellsC cs)[j]?) : HeadsAt w g cs := by
  refine ⟨(Array.getElem?_eq_some_iff.1 hb).1, fun j x hx => ?_⟩
  have hj : j < cs.length := (List.getElem?_eq_some_iff.1 hx).1
  obtain ⟨h1, h2⟩ := cellsC_get cs j x hx
  exact ⟨by rw [cell_of_row _ _ _ _ _ _ hb, hc _ (by omega)]; exact h1, by rw [cell_of_row _ _ _ _ _ _ hb, hc _ (by omega)]; exact h2⟩
/-- Two of them. -/
theorem heads_two (w : World) (c d : PutC) : HeadsAt (w.alloc (.cells #[.int .i64 c.N, .slice c.a c.len c.cap, .int .i64 d.N, .slice d.a d.len d.cap] 69)) w.heap.size [c, d] ∧ Kept [] w (w.alloc (.cells #[.int .i64 c.N, .slice c.a c.len c.cap, .int .i64 d.N, .slice d.a d.len d.cap] 69)) :=
  ⟨heads_row (heap_alloc_new w _) [c, d] (fun j hj => by simp [cellsC]), Kept.of_alloc _ _ _⟩

section
variable {w : World} {lb db pb mb n B : Nat} {U : Nat → List Int} {s : Int}
/-- Commit, of a list that may not be. -/
theorem refuses_bad (h : Works w lb db pb mb n B U s) (pk cap : Nat) (cs : List PutC) (hp : HeadsAt w pk cs) (h40 : cs.length ≤ 40) (hcap : cs.length ≤ cap) (i : Nat) (hi : i < cs.length) (hb : badAt n cs i) :
    Calls Try.prog 29 #[.pointer (some ⟨lb, 0, none⟩), .slice (some ⟨pk, 0, none⟩) cs.length cap] w fun e w' => e = .returned (.int .i64 1) ∧ Kept [] w w' := by
  obtain ⟨⟨σ, s0, hL, hd, h00, hI, hU⟩, hn⟩ := h
  refine Commit_refuses _ _ _ 1 (by decide) (fun W kW => (check_any (hL.same kW) pk cap cs (hp.kept kW (by simp)) h40 hcap).mono ?_)
  rintro e w' ⟨r, rfl, hr, k⟩
  rcases hr with ⟨rfl, _⟩ | ⟨_, hno⟩
  · exact ⟨rfl, k⟩
  · exact absurd hb (hno i hi)
theorem refuses_many (lb : Nat) (a : Option Addr) (m cap : Nat) (hm : 40 < m) :
    Calls Try.prog 29 #[.pointer (some ⟨lb, 0, none⟩), .slice a m cap] w fun e w' => e = .returned (.int .i64 4) ∧ Kept [] w w' :=
  Commit_refuses _ _ _ 4 (by decide) (fun W _ => (check_many lb a m cap hm W).mono fun _ _ ⟨he, hw⟩ => ⟨he, hw ▸ Kept.refl _ _⟩)
theorem readNone_works (h : Works w lb db pb mb n B U s) (k : Int) (h0 : k < 42 ∨ (n : Int) ≤ k) :
    Calls Try.prog 33 #[.pointer (some ⟨lb, 0, none⟩), .int .i64 k] w fun e w' => e = .returned (.tuple #[.slice none 0 0, .int .i64 1]) ∧ w' = w := by
  obtain ⟨⟨σ, s0, hL, hd, h00, hI, hU⟩, hn⟩ := h
  exact lRead_none hL hd k h0
end

/-- append, by its run. -/
theorem wpList_append_puts {ops : Array Oper} {rest : List Oper} {o : Oper} {a : Act} {w : World} {Q : Exit → Act → World → Prop} (hg : o.guard = none) (x y : Operand) (ho : o.op = .call { callee := .builtin .append, args := #[x, y], argTypes := #[61, 61] }) (hty : o.type = 61) {u v r : Value} {w' : World} (hx : a.eval x = u) (hy : a.eval y = v)
    (hc : (Builtin.append_ #[61, 61] 61 #[u, v]).run Try.prog w = .ok r w')
    (h : wpList Try.prog ops Q rest (a.put o.dst r) w') : wpList Try.prog ops Q (o :: rest) a w := by
  refine wpList_value hg ?_ h
  unfold execOp
  simp only [ho, hty, resolve, invoke, builtin, Sem.run_bind, Sem.run_pure, Result.andThen_ok]
  simp [hx, hy, hc, Result.andThen]

/-- The block of a list of the call's own. -/
def ownB (v : Value) : List Nat := match v.ownBlock with | some k => [k] | none => []
theorem info_put : (Try.prog.info? 69).map (fun i => (i.zero, i.size, i.bytes)) = some (some (.agg #[.int .i64 0, .slice none 0 0]), 2, 32) := by kernel_rfl
/-- append of one, to a list of the call's own. -/
theorem append_put (w : World) (base : Nat) (v : Value) (cs : List PutC) (hown : w.ownsRow base 69 2 v cs.length (cellsC cs)) (c : PutC) (hb : base ≤ w.heap.size) (hl : cs.length < 1000) :
    ∃ v' W', (Builtin.append_ #[61, 61] 61 #[v, .slice (some ⟨w.heap.size, 0, none⟩) 1 1]).run Try.prog (w.alloc (.cells #[.int .i64 c.N, .slice c.a c.len c.cap] 69)) = .ok v' W' ∧
      W'.ownsRow base 69 2 v' (cs ++ [c]).length (cellsC (cs ++ [c])) ∧ Kept (ownB v) w W' ∧ (∃ g cap, v' = .slice (some ⟨g, 0, none⟩) (cs ++ [c]).length cap) := by
  obtain ⟨i, hi, hq⟩ : ∃ i, Try.prog.info? 69 = some i ∧ (i.zero, i.size, i.bytes) = (some (.agg #[.int .i64 0, .slice none 0 0]), 2, 32) := by
    have := info_put
    cases h : Try.prog.info? 69 with
    | none => rw [h] at this; cases this
    | some i => rw [h] at this; exact ⟨i, rfl, by simpa using this⟩
  have hz : i.zero = some (.agg #[.int .i64 0, .slice none 0 0]) := congrArg Prod.fst hq
  have hs : i.size = 2 := congrArg (fun p => p.2.1) hq
  have hby : i.bytes = 32 := congrArg (fun p => p.2.2) hq
  have ha : (w.alloc (.cells #[.int .i64 c.N, .slice c.a c.len c.cap] 69)).heap[w.heap.size]? = some (.cells #[.int .i64 c.N, .slice c.a c.len c.cap] 69 (0, 0)) := heap_alloc_new w _
  obtain ⟨v', W', h1, h2, h3, h4⟩ := run_append_own (P := Try.prog) (w.alloc (.cells #[.int .i64 c.N, .slice c.a c.len c.cap] 69)) base 61 61 69 i _ 2 32 Try.underlying61 hi hz hs hby rfl (by decide) v cs.length (cellsC cs) (hown.alloc _)
    ⟨w.heap.size, 0, none⟩ 1 1 (cellsC [c]) rfl (fun j u hu => by
      rw [Addr.add_mid, cell_of_row _ _ _ _ _ (0, 0) ha]
      match j, hu with
      | 0, hu => exact hu
      | 1, hu => exact hu
      | j + 2, hu => simp [cellsC] at hu) (cellsC_one [c]) (by simp only [maxLen]; omega) (by omega) (by simp; omega)
  refine ⟨v', W', h1, ?_, ?_, ?_⟩
  · rw [cellsC_append, List.length_append]
    exact h2
  · exact ((Kept.of_alloc [] w _).mono (by simp)).grown h3 (fun k hk => Or.inl (by simp [ownB, hk]))
  · rcases h2.2 with ⟨hv, hn⟩ | ⟨g, cap, cur, hv, _⟩
    · simp at hn
    · exact ⟨g, cap, by rw [hv, List.length_append]; rfl⟩
/-- make([]byte, 129). -/
theorem made129 (w : World) : ∃ W g, (Instr.makeSlice 31 (.int .i64 129) (.int .i64 129)).run Try.prog w = .ok (.slice (some ⟨g, 0, none⟩) 129 129) W ∧ Kept [] w W := by
  obtain ⟨i, hi, hz, hs, hb⟩ := info_parts info_byte
  have := run_make (P := Try.prog) w 31 5 i _ Try.underlying31 hi hz .i64 .i64 129 129 (by omega) (by omega) (by rw [hb]; omega) (by omega)
  exact ⟨_, _, this, Kept.of_alloc _ _ _⟩
end Go.Proofs.Ytgjnlocokkjejaa
