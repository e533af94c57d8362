/-
  USERS OF A LAW'S OWN (donjonlaw9.Some): rows of users that the call made, and what Some makes of labels.
-/
import Derived.Test.YtagpjihhnnmhnaaUserRefConfig
import Derived.Test.YtagpjihhnnmhnaaUserRefEnter
namespace Go.Proofs.Ytagpjihhnnmhnaa
open Go.RowKit
set_option linter.unusedSimpArgs false
set_option linter.unusedVariables false

theorem flat_get {α β : Type} {f : α → List β} {n : Nat} (hf : ∀ a, (f a).length = n) : ∀ (l : List α) (j k : Nat) (a : α), l[j]? = some a → k < n → (l.flatMap f)[j * n + k]? = (f a)[k]?
  | [], _, _, _, h, _ => by simp at h
  | b :: r, 0, k, a, h, hk => by
    simp at h
    subst h
    rw [List.flatMap_cons, Nat.zero_mul, Nat.zero_add, List.getElem?_append_left (by rw [hf]; exact hk)]
  | b :: r, j + 1, k, a, h, hk => by
    simp at h
    rw [List.flatMap_cons, List.getElem?_append_right (by rw [hf, Nat.succ_mul]; omega), hf, show (j + 1) * n + k - n = j * n + k by rw [Nat.succ_mul]; omega]
    exact flat_get hf r j k a h hk
/-- A row of users of the call's own. -/
def OwnU (w : World) (base : Nat) (v : Value) (us : List Usr) : Prop := w.ownsRow base 40 8 v us.length (us.flatMap fun u => (ucells u).toList)
theorem ownU_nil (w : World) (base : Nat) : OwnU w base (.slice none 0 0) [] := World.ownsRow_nil _ _ _ _
theorem ucells_len (u : Usr) : (ucells u).toList.length = 8 := rfl
theorem OwnU.slice {w : World} {base : Nat} {v : Value} {us : List Usr} (h : OwnU w base v us) : ∃ a cap, v = .slice a us.length cap ∧ us.length ≤ cap ∧ UsrsAt w a us := by
  have hrow : w.ownsRow base 40 8 v us.length (us.flatMap fun u => (ucells u).toList) := h
  rcases h.2 with ⟨rfl, h2⟩ | ⟨g, cap, cur, rfl, _, _, hc, _⟩
  · refine ⟨none, 0, by rw [h2], by omega, fun j u hu => ?_⟩
    have := (List.getElem?_eq_some_iff.1 hu).1
    omega
  · refine ⟨_, cap, rfl, hc, fun j u hu => ⟨_, rfl, ?_⟩⟩
    have hj := (List.getElem?_eq_some_iff.1 hu).1
    have key : ∀ k, k < 8 → w.cell? ⟨g, j * 8 + k, none⟩ = (ucells u).toList[k]? := fun k hk => by
      rw [hrow.cellAt (j * 8 + k) (by omega), flat_get ucells_len us j k u hu hk]
    rw [add_at]
    exact ⟨key 0 (by omega), key 1 (by omega), key 2 (by omega), key 3 (by omega), key 4 (by omega), key 5 (by omega), key 6 (by omega), key 7 (by omega)⟩
theorem OwnU.below {w w' : World} {base : Nat} {v : Value} {us : List Usr} (h : OwnU w base v us) (b : Below w.heap.size w w') : OwnU w' base v us := by
  refine ⟨h.1, ?_⟩
  rcases h.2 with h1 | ⟨g, cap, cur, hv, hb, hg, rest⟩
  · exact .inl h1
  · exact .inr ⟨g, cap, cur, hv, hb, (b.block g (Array.getElem?_eq_some_iff.1 hg).1).trans hg, rest⟩
theorem info_usr : (Try.prog.info? 40).map (fun i => (i.zero, i.size, i.bytes)) = some (some Usr.none.v, 8, 72) := by kernel_rfl
theorem info_usrs : ∃ i, Try.prog.info? 40 = some i ∧ i.zero = some Usr.none.v ∧ i.size = 8 ∧ i.bytes = 72 := by
  have := info_usr
  cases h : Try.prog.info? 40 with
  | none => rw [h] at this; cases this
  | some i =>
    rw [h] at this
    have hq : (i.zero, i.size, i.bytes) = (some Usr.none.v, 8, 72) := by simpa using this
    exact ⟨i, rfl, congrArg Prod.fst hq, congrArg (fun p => p.2.1) hq, congrArg (fun p => p.2.2) hq⟩
theorem append_usr (W : World) (base : Nat) (v : Value) (l : List Usr) (x : Usr) (hown : OwnU W base v l) (hb : base ≤ W.heap.size) (hl : l.length < 900000) :
    ∃ v' W', (Builtin.append_ #[23, 23] 23 #[v, .slice (some ⟨W.heap.size, 0, none⟩) 1 1]).run Try.prog (W.alloc (.cells (ucells x) 40)) = .ok v' W' ∧ OwnU W' base v' (l ++ [x]) ∧ Below base W W' := by
  obtain ⟨i, hi, hz, hs, hby⟩ := info_usrs
  have ho : (W.alloc (.cells (ucells x) 40)).ownsRow base 40 8 v l.length (l.flatMap fun u => (ucells u).toList) := World.ownsRow.alloc hown _
  obtain ⟨v', W', h1, h2, h3, _⟩ := run_append_own (P := Try.prog) (W.alloc (.cells (ucells x) 40)) base 23 23 40 i _ 8 72 Try.underlying23 hi hz hs hby rfl (by decide) v l.length _ ho ⟨W.heap.size, 0, none⟩ 1 1 (ucells x).toList rfl (fun j u hu => by
    rw [add_at, World.cell?_alloc_at _ _ _ _ rfl, ← hu]
    simp) (by
      intro u hu
      simp at hu
      rcases hu with rfl | rfl | rfl | rfl | rfl | rfl | rfl | rfl <;> simp [Value.oneCell']) (by simp only [maxLen]; omega) (by omega) (by simp; omega)
  refine ⟨v', W', h1, ?_, ?_⟩
  · unfold OwnU
    rw [List.flatMap_append, List.length_append]
    simpa using h2
  · exact ((Below.refl base W).alloc hb _).grown h3 (by simp; omega) (fun k hk => (ho.lt k hk).1)
section
variable {ops : Array Oper} {o : Oper} {a : Act} {w : World} {Q : Exit → Act → World → Prop}
theorem step_append_usr {K : Act → World → Prop} {E : Prop} (hg : o.guard = none) (s x : Operand) (hop : o.op = Op.call { callee := Callee.builtin Builtin.append, args := #[s, x], argTypes := #[23, 23] }) (hty : o.type = 23) {u v r : Value} {w' : World} (hs : a.eval s = u) (hx : a.eval x = v)
    (hrun : (Builtin.append_ #[23, 23] 23 #[u, v]).run Try.prog w = .ok r w') (hK : K (a.put o.dst r) w') :
    if Region.wanted o (yielded ops a.tmps) = true then Oper.wp Try.prog o a w K Q else E := by
  have hw : Region.wanted o (yielded ops a.tmps) = true := by simp [Region.wanted, hg]
  rw [if_pos hw]
  unfold Oper.wp
  simp [execOp, hop, hty, resolve, invoke, builtin, hs, hx, hrun, Result.andThen]
  exact hK
theorem wpList_append_usr {rest : List Oper} (hg : o.guard = none) (x y : Operand) (ho : o.op = .call { callee := .builtin .append, args := #[x, y], argTypes := #[23, 23] }) (hty : o.type = 23) {u v r : Value} {w' : World} (hx : a.eval x = u) (hy : a.eval y = v)
    (hc : (Builtin.append_ #[23, 23] 23 #[u, v]).run Try.prog w = .ok r w')
    (h : wpList Try.prog ops Q rest (a.put o.dst r) w') : wpList Try.prog ops Q (o :: rest) a w := by
  refine wpList_value hg ?_ h
  unfold execOp
  simp only [ho, hty, resolve, invoke, builtin, Sem.run_bind, Sem.run_pure, Result.andThen_ok]
  simp [hx, hy, hc, Result.andThen]
end

/-- A text of one byte. -/
def chr (k : Nat) : ByteArray := ⟨#[UInt8.ofNat k]⟩
theorem conv_chr (w : World) (k : Nat) (hk : k < 256) : (convert 50 9 (.slice (some ⟨w.heap.size, 0, none⟩) 1 1)).run Try.prog (w.alloc (.cells #[.int .u8 (k : Int)] 5)) = .ok (.string (chr k)) (w.alloc (.cells #[.int .u8 (k : Int)] 5)) := by
  refine run_convert_bytes_back _ _ _ 5 ⟨w.heap.size, 0, none⟩ 1 [UInt8.ofNat k] Try.underlying50 Try.underlying5 Try.underlying9 fun j hj => ?_
  obtain rfl : j = 0 := by simp at hj; omega
  rw [add_at, World.cell?_alloc_at _ _ _ _ rfl]
  simp
  omega
/-- The user of a place and a label. -/
def someAt (i : Nat) (x : Lab) : Usr := ⟨chr (97 + i), (i : Int) * 7, ofN ((i : Int) * 7) [UInt8.ofNat (97 + i), UInt8.ofNat (97 + i)], goodL x, (i : Int) % 2 == 0⟩
def someTo (l : List Lab) (k : Nat) : List Usr := (l.take k).mapIdx someAt
theorem someTo_len (l : List Lab) (k : Nat) : (someTo l k).length = min k l.length := by simp [someTo]
theorem someTo_succ {l : List Lab} {k : Nat} {x : Lab} (h : l[k]? = some x) : someTo l (k + 1) = someTo l k ++ [someAt k x] := by
  have hk := (List.getElem?_eq_some_iff.1 h).1
  unfold someTo
  rw [List.take_add_one, h, Option.toList_some, List.mapIdx_concat, List.length_take, Nat.min_eq_left (by omega)]

set_option maxRecDepth 4000 in
set_option maxHeartbeats 4000000 in
theorem some_any (a : Option Addr) (l : List Lab) (n cap : Nat) (hn : l.length = n) (w : World) (hL : LabsAt w a l) :
    Calls Try.prog 13 #[.slice a n cap] w fun e w' => ∃ v, e = .returned v ∧ OwnU w' w.heap.size v (someTo l 8) ∧ Below w.heap.size w w' := by
  go_enter Try.func13, Try.ntmps13
  go_wp2_with fail
  go_loopw [3, 4] (fun t3 t4 wr => ∃ i : Nat, i ≤ 8 ∧ i ≤ n ∧ t4 = .int .i64 (i : Int) ∧ OwnU wr w.heap.size t3 (someTo l i) ∧ Below w.heap.size w wr) (fun _ t4 _ => 8 - (Go.RowKit.intOf t4).toNat)
  case atStart => exact ⟨0, by omega, by omega, rfl, ownU_nil _ _, Below.refl _ _⟩
  case round =>
    obtain ⟨i, hi, hin, rfl, ho, hB⟩ := hrel
    by_cases hlt : i < n
    · by_cases h8 : i < 8
      · obtain ⟨x, hx⟩ : ∃ x, l[i]? = some x := ⟨_, List.getElem?_eq_getElem (by omega)⟩
        obtain ⟨y, rfl, hX⟩ := hL i x hx
        have hcv := conv_chr wr (97 + i) (by omega)
        have hwr : IntKind.u8.wrap (97 + (i : Int)) = 97 + (i : Int) := Go.IntWalk.u8_in _ (by omega)
        rw [show ((97 + i : Nat) : Int) = 97 + (i : Int) by omega] at hcv
        have hd8 : decide ((i : Int) < 8) = true := by simp; omega
        have hB1 : Below w.heap.size w (wr.alloc (.cells #[.int .u8 (97 + (i : Int))] 5)) := hB.alloc hB.size _
        have hcs : (chr (97 + i)).size = 1 := rfl
        have hcd : (chr (97 + i) ++ chr (97 + i)).data.toList = [UInt8.ofNat (97 + i), UInt8.ofNat (97 + i)] := by rw [ByteArray.toList_data_append]; rfl
        have cO := rof_any ((i : Int) * 7) (by omega) (chr (97 + i) ++ chr (97 + i)) (by rw [ByteArray.size_append, hcs]; omega)
        rw [hcd] at cO
        have cG := good_any x
        have d7 : IntKind.i64.wrap ((i : Int) * 7) = (i : Int) * 7 := Go.IntWalk.i64_in _ (by omega)
        obtain ⟨H, hH⟩ : ∃ H, ofN ((i : Int) * 7) [UInt8.ofNat (97 + i), UInt8.ofNat (97 + i)] = H := ⟨_, rfl⟩
        rw [hH] at cO
        obtain ⟨c0, c1, c2, c3⟩ := hX
        have hkeep : ∀ W, Below w.heap.size w W → (fun W => Below w.heap.size w W ∧ W.cell? (y.add (i * 4)) = some (.int .i64 x.s) ∧ W.cell? ⟨(y.add (i * 4)).block, (y.add (i * 4)).off + 1, none⟩ = some (.int .i64 x.c) ∧ W.cell? ⟨(y.add (i * 4)).block, (y.add (i * 4)).off + 2, none⟩ = some (.int .i64 x.i) ∧ W.cell? ⟨(y.add (i * 4)).block, (y.add (i * 4)).off + 3, none⟩ = some (.int .i64 x.k)) W := fun W h => ⟨h, (h.cell (World.block_lt_of_cell? _ _ c0)).trans c0, (h.cell (World.block_lt_of_cell? _ _ c1)).trans c1, (h.cell (World.block_lt_of_cell? _ _ c2)).trans c2, (h.cell (World.block_lt_of_cell? _ _ c3)).trans c3⟩
        have hS0 : (fun W => Below w.heap.size w W ∧ W.cell? (y.add (i * 4)) = some (.int .i64 x.s) ∧ W.cell? ⟨(y.add (i * 4)).block, (y.add (i * 4)).off + 1, none⟩ = some (.int .i64 x.c) ∧ W.cell? ⟨(y.add (i * 4)).block, (y.add (i * 4)).off + 2, none⟩ = some (.int .i64 x.i) ∧ W.cell? ⟨(y.add (i * 4)).block, (y.add (i * 4)).off + 3, none⟩ = some (.int .i64 x.k)) (wr.alloc (.cells #[.int .u8 (97 + (i : Int))] 5)).drew := hkeep _ hB1.drew
        have hapx : ∀ W, Below (wr.alloc (.cells #[.int .u8 (97 + (i : Int))] 5)).drew.heap.size (wr.alloc (.cells #[.int .u8 (97 + (i : Int))] 5)).drew W → ∃ v' W', (Builtin.append_ #[23, 23] 23 #[u3, .slice (some ⟨W.heap.size, 0, none⟩) 1 1]).run Try.prog (W.alloc (.cells #[.string (chr (97 + i)), .int .i64 ((i : Int) * 7), .int .u64 (H : Int), .int .i64 (goodL x).s, .int .i64 (goodL x).c, .int .i64 (goodL x).i, .int .i64 (goodL x).k, .bool ((i : Int) % 2 == 0)] 40)) = .ok v' W' ∧ OwnU W' w.heap.size v' (someTo l (i + 1)) ∧ Below w.heap.size W W' := fun W hW => by
          have hlen := someTo_len l i
          obtain ⟨v', W', h1, h2, h3⟩ := append_usr W w.heap.size u3 (someTo l i) (someAt i x) ((ho.below ((Below.refl _ _).alloc (Nat.le_refl _) (.cells #[.int .u8 (97 + (i : Int))] 5)).drew).below hW) (by have := hB1.drew.size; have := hW.size; omega) (by omega)
          rw [← someTo_succ hx] at h2
          refine ⟨v', W', ?_, h2, h3⟩
          rw [← hH]
          exact h1
        clear c0 c1 c2 c3 hH hcd hx ho
        go_wp2_with fail
        refine wp_region_held_drew (S := (fun W => Below w.heap.size w W ∧ W.cell? (y.add (i * 4)) = some (.int .i64 x.s) ∧ W.cell? ⟨(y.add (i * 4)).block, (y.add (i * 4)).off + 1, none⟩ = some (.int .i64 x.c) ∧ W.cell? ⟨(y.add (i * 4)).block, (y.add (i * 4)).off + 2, none⟩ = some (.int .i64 x.i) ∧ W.cell? ⟨(y.add (i * 4)).block, (y.add (i * 4)).off + 3, none⟩ = some (.int .i64 x.k))) (by kernel_rfl) (by first | exact hS4 | exact hS3 | exact hS2 | exact hS1 | exact hS0) ?_
        intro hHeld
        first | (refine wpAnyH_take (i := 0) (v := ?_) (by simp only [List.getElem?_toArray, List.getElem?_cons_zero, List.getElem?_cons_succ]; rfl) (by kernel_rfl) (by kernel_rfl) (by kernel_rfl) (by exact fun _ _ _ h => h) (Or.inl ⟨by rfl, ?_⟩) (by assumption) ?_; rotate_left; (focus (intro w hSw; (try dsimp only at hSw); go_simp; try with_reducible rfl)); simp only [Act.put, List.setIfInBounds_toArray, List.set_cons_zero, List.set_cons_succ, d7]) | (refine wpAnyH_take (i := 0) (v := undef) (by simp only [List.getElem?_toArray, List.getElem?_cons_zero, List.getElem?_cons_succ]; rfl) (by kernel_rfl) (by kernel_rfl) (by kernel_rfl) (by exact fun _ _ _ h => h) (Or.inr ⟨by rfl, rfl⟩) (by assumption) ?_; simp only [Act.put, List.setIfInBounds_toArray, List.set_cons_zero, List.set_cons_succ, d7]) | fail
        first | (refine wpAnyH_take (i := 1) (v := ?_) (by simp only [List.getElem?_toArray, List.getElem?_cons_zero, List.getElem?_cons_succ]; rfl) (by kernel_rfl) (by kernel_rfl) (by kernel_rfl) (by exact fun _ _ _ h => h) (Or.inl ⟨by rfl, ?_⟩) (by assumption) ?_; rotate_left; (focus (intro w hSw; (try dsimp only at hSw); go_simp; try with_reducible rfl)); simp only [Act.put, List.setIfInBounds_toArray, List.set_cons_zero, List.set_cons_succ, d7]) | (refine wpAnyH_take (i := 1) (v := undef) (by simp only [List.getElem?_toArray, List.getElem?_cons_zero, List.getElem?_cons_succ]; rfl) (by kernel_rfl) (by kernel_rfl) (by kernel_rfl) (by exact fun _ _ _ h => h) (Or.inr ⟨by rfl, rfl⟩) (by assumption) ?_; simp only [Act.put, List.setIfInBounds_toArray, List.set_cons_zero, List.set_cons_succ, d7]) | fail
        first | (refine wpAnyH_take (i := 2) (v := ?_) (by simp only [List.getElem?_toArray, List.getElem?_cons_zero, List.getElem?_cons_succ]; rfl) (by kernel_rfl) (by kernel_rfl) (by kernel_rfl) (by exact fun _ _ _ h => h) (Or.inl ⟨by rfl, ?_⟩) (by assumption) ?_; rotate_left; (focus (intro w hSw; (try dsimp only at hSw); go_simp; try with_reducible rfl)); simp only [Act.put, List.setIfInBounds_toArray, List.set_cons_zero, List.set_cons_succ, d7]) | (refine wpAnyH_take (i := 2) (v := undef) (by simp only [List.getElem?_toArray, List.getElem?_cons_zero, List.getElem?_cons_succ]; rfl) (by kernel_rfl) (by kernel_rfl) (by kernel_rfl) (by exact fun _ _ _ h => h) (Or.inr ⟨by rfl, rfl⟩) (by assumption) ?_; simp only [Act.put, List.setIfInBounds_toArray, List.set_cons_zero, List.set_cons_succ, d7]) | fail
        first | (refine wpAnyH_take (i := 3) (v := ?_) (by simp only [List.getElem?_toArray, List.getElem?_cons_zero, List.getElem?_cons_succ]; rfl) (by kernel_rfl) (by kernel_rfl) (by kernel_rfl) (by exact fun _ _ _ h => h) (Or.inl ⟨by rfl, ?_⟩) (by assumption) ?_; rotate_left; (focus (intro w hSw; (try dsimp only at hSw); go_simp; try with_reducible rfl)); simp only [Act.put, List.setIfInBounds_toArray, List.set_cons_zero, List.set_cons_succ, d7]) | (refine wpAnyH_take (i := 3) (v := undef) (by simp only [List.getElem?_toArray, List.getElem?_cons_zero, List.getElem?_cons_succ]; rfl) (by kernel_rfl) (by kernel_rfl) (by kernel_rfl) (by exact fun _ _ _ h => h) (Or.inr ⟨by rfl, rfl⟩) (by assumption) ?_; simp only [Act.put, List.setIfInBounds_toArray, List.set_cons_zero, List.set_cons_succ, d7]) | fail
        first | (refine wpAnyH_take (i := 4) (v := ?_) (by simp only [List.getElem?_toArray, List.getElem?_cons_zero, List.getElem?_cons_succ]; rfl) (by kernel_rfl) (by kernel_rfl) (by kernel_rfl) (by exact fun _ _ _ h => h) (Or.inl ⟨by rfl, ?_⟩) (by assumption) ?_; rotate_left; (focus (intro w hSw; (try dsimp only at hSw); go_simp; try with_reducible rfl)); simp only [Act.put, List.setIfInBounds_toArray, List.set_cons_zero, List.set_cons_succ, d7]) | (refine wpAnyH_take (i := 4) (v := undef) (by simp only [List.getElem?_toArray, List.getElem?_cons_zero, List.getElem?_cons_succ]; rfl) (by kernel_rfl) (by kernel_rfl) (by kernel_rfl) (by exact fun _ _ _ h => h) (Or.inr ⟨by rfl, rfl⟩) (by assumption) ?_; simp only [Act.put, List.setIfInBounds_toArray, List.set_cons_zero, List.set_cons_succ, d7]) | fail
        first | (refine wpAnyH_take (i := 5) (v := ?_) (by simp only [List.getElem?_toArray, List.getElem?_cons_zero, List.getElem?_cons_succ]; rfl) (by kernel_rfl) (by kernel_rfl) (by kernel_rfl) (by exact fun _ _ _ h => h) (Or.inl ⟨by rfl, ?_⟩) (by assumption) ?_; rotate_left; (focus (intro w hSw; (try dsimp only at hSw); go_simp; try with_reducible rfl)); simp only [Act.put, List.setIfInBounds_toArray, List.set_cons_zero, List.set_cons_succ, d7]) | (refine wpAnyH_take (i := 5) (v := undef) (by simp only [List.getElem?_toArray, List.getElem?_cons_zero, List.getElem?_cons_succ]; rfl) (by kernel_rfl) (by kernel_rfl) (by kernel_rfl) (by exact fun _ _ _ h => h) (Or.inr ⟨by rfl, rfl⟩) (by assumption) ?_; simp only [Act.put, List.setIfInBounds_toArray, List.set_cons_zero, List.set_cons_succ, d7]) | fail
        first | (refine wpAnyH_take (i := 6) (v := ?_) (by simp only [List.getElem?_toArray, List.getElem?_cons_zero, List.getElem?_cons_succ]; rfl) (by kernel_rfl) (by kernel_rfl) (by kernel_rfl) (by exact fun _ _ _ h => h) (Or.inl ⟨by rfl, ?_⟩) (by assumption) ?_; rotate_left; (focus (intro w hSw; (try dsimp only at hSw); go_simp; try with_reducible rfl)); simp only [Act.put, List.setIfInBounds_toArray, List.set_cons_zero, List.set_cons_succ, d7]) | (refine wpAnyH_take (i := 6) (v := undef) (by simp only [List.getElem?_toArray, List.getElem?_cons_zero, List.getElem?_cons_succ]; rfl) (by kernel_rfl) (by kernel_rfl) (by kernel_rfl) (by exact fun _ _ _ h => h) (Or.inr ⟨by rfl, rfl⟩) (by assumption) ?_; simp only [Act.put, List.setIfInBounds_toArray, List.set_cons_zero, List.set_cons_succ, d7]) | fail
        first | (refine wpAnyH_take (i := 7) (v := ?_) (by simp only [List.getElem?_toArray, List.getElem?_cons_zero, List.getElem?_cons_succ]; rfl) (by kernel_rfl) (by kernel_rfl) (by kernel_rfl) (by exact fun _ _ _ h => h) (Or.inl ⟨by rfl, ?_⟩) (by assumption) ?_; rotate_left; (focus (intro w hSw; (try dsimp only at hSw); go_simp; try with_reducible rfl)); simp only [Act.put, List.setIfInBounds_toArray, List.set_cons_zero, List.set_cons_succ, d7]) | (refine wpAnyH_take (i := 7) (v := undef) (by simp only [List.getElem?_toArray, List.getElem?_cons_zero, List.getElem?_cons_succ]; rfl) (by kernel_rfl) (by kernel_rfl) (by kernel_rfl) (by exact fun _ _ _ h => h) (Or.inr ⟨by rfl, rfl⟩) (by assumption) ?_; simp only [Act.put, List.setIfInBounds_toArray, List.set_cons_zero, List.set_cons_succ, d7]) | fail
        first | (refine wpAnyH_take (i := 8) (v := ?_) (by simp only [List.getElem?_toArray, List.getElem?_cons_zero, List.getElem?_cons_succ]; rfl) (by kernel_rfl) (by kernel_rfl) (by kernel_rfl) (by exact fun _ _ _ h => h) (Or.inl ⟨by rfl, ?_⟩) (by assumption) ?_; rotate_left; (focus (intro w hSw; (try dsimp only at hSw); go_simp; try with_reducible rfl)); simp only [Act.put, List.setIfInBounds_toArray, List.set_cons_zero, List.set_cons_succ, d7]) | (refine wpAnyH_take (i := 8) (v := undef) (by simp only [List.getElem?_toArray, List.getElem?_cons_zero, List.getElem?_cons_succ]; rfl) (by kernel_rfl) (by kernel_rfl) (by kernel_rfl) (by exact fun _ _ _ h => h) (Or.inr ⟨by rfl, rfl⟩) (by assumption) ?_; simp only [Act.put, List.setIfInBounds_toArray, List.set_cons_zero, List.set_cons_succ, d7]) | fail
        first | (refine wpAnyH_take (i := 10) (v := ?_) (by simp only [List.getElem?_toArray, List.getElem?_cons_zero, List.getElem?_cons_succ]; rfl) (by kernel_rfl) (by kernel_rfl) (by kernel_rfl) (by exact fun _ _ _ h => h) (Or.inl ⟨by rfl, ?_⟩) (by assumption) ?_; rotate_left; (focus (intro w hSw; (try dsimp only at hSw); go_simp; try with_reducible rfl)); simp only [Act.put, List.setIfInBounds_toArray, List.set_cons_zero, List.set_cons_succ, d7]) | (refine wpAnyH_take (i := 10) (v := undef) (by simp only [List.getElem?_toArray, List.getElem?_cons_zero, List.getElem?_cons_succ]; rfl) (by kernel_rfl) (by kernel_rfl) (by kernel_rfl) (by exact fun _ _ _ h => h) (Or.inr ⟨by rfl, rfl⟩) (by assumption) ?_; simp only [Act.put, List.setIfInBounds_toArray, List.set_cons_zero, List.set_cons_succ, d7]) | fail
        first | (refine wpAnyH_take (i := 11) (v := ?_) (by simp only [List.getElem?_toArray, List.getElem?_cons_zero, List.getElem?_cons_succ]; rfl) (by kernel_rfl) (by kernel_rfl) (by kernel_rfl) (by exact fun _ _ _ h => h) (Or.inl ⟨by rfl, ?_⟩) (by assumption) ?_; rotate_left; (focus (intro w hSw; (try dsimp only at hSw); go_simp; try with_reducible rfl)); simp only [Act.put, List.setIfInBounds_toArray, List.set_cons_zero, List.set_cons_succ, d7]) | (refine wpAnyH_take (i := 11) (v := undef) (by simp only [List.getElem?_toArray, List.getElem?_cons_zero, List.getElem?_cons_succ]; rfl) (by kernel_rfl) (by kernel_rfl) (by kernel_rfl) (by exact fun _ _ _ h => h) (Or.inr ⟨by rfl, rfl⟩) (by assumption) ?_; simp only [Act.put, List.setIfInBounds_toArray, List.set_cons_zero, List.set_cons_succ, d7]) | fail
        first | (refine wpAnyH_take (i := 12) (v := ?_) (by simp only [List.getElem?_toArray, List.getElem?_cons_zero, List.getElem?_cons_succ]; rfl) (by kernel_rfl) (by kernel_rfl) (by kernel_rfl) (by exact fun _ _ _ h => h) (Or.inl ⟨by rfl, ?_⟩) (by assumption) ?_; rotate_left; (focus (intro w hSw; (try dsimp only at hSw); go_simp; try with_reducible rfl)); simp only [Act.put, List.setIfInBounds_toArray, List.set_cons_zero, List.set_cons_succ, d7]) | (refine wpAnyH_take (i := 12) (v := undef) (by simp only [List.getElem?_toArray, List.getElem?_cons_zero, List.getElem?_cons_succ]; rfl) (by kernel_rfl) (by kernel_rfl) (by kernel_rfl) (by exact fun _ _ _ h => h) (Or.inr ⟨by rfl, rfl⟩) (by assumption) ?_; simp only [Act.put, List.setIfInBounds_toArray, List.set_cons_zero, List.set_cons_succ, d7]) | fail
        first | (refine wpAnyH_take (i := 13) (v := ?_) (by simp only [List.getElem?_toArray, List.getElem?_cons_zero, List.getElem?_cons_succ]; rfl) (by kernel_rfl) (by kernel_rfl) (by kernel_rfl) (by exact fun _ _ _ h => h) (Or.inl ⟨by rfl, ?_⟩) (by assumption) ?_; rotate_left; (focus (intro w hSw; (try dsimp only at hSw); go_simp; try with_reducible rfl)); simp only [Act.put, List.setIfInBounds_toArray, List.set_cons_zero, List.set_cons_succ, d7]) | (refine wpAnyH_take (i := 13) (v := undef) (by simp only [List.getElem?_toArray, List.getElem?_cons_zero, List.getElem?_cons_succ]; rfl) (by kernel_rfl) (by kernel_rfl) (by kernel_rfl) (by exact fun _ _ _ h => h) (Or.inr ⟨by rfl, rfl⟩) (by assumption) ?_; simp only [Act.put, List.setIfInBounds_toArray, List.set_cons_zero, List.set_cons_succ, d7]) | fail
        first | (refine wpAnyH_take (i := 15) (v := ?_) (by simp only [List.getElem?_toArray, List.getElem?_cons_zero, List.getElem?_cons_succ]; rfl) (by kernel_rfl) (by kernel_rfl) (by kernel_rfl) (by exact fun _ _ _ h => h) (Or.inl ⟨by rfl, ?_⟩) (by assumption) ?_; rotate_left; (focus (intro w hSw; (try dsimp only at hSw); go_simp; try with_reducible rfl)); simp only [Act.put, List.setIfInBounds_toArray, List.set_cons_zero, List.set_cons_succ, d7]) | (refine wpAnyH_take (i := 15) (v := undef) (by simp only [List.getElem?_toArray, List.getElem?_cons_zero, List.getElem?_cons_succ]; rfl) (by kernel_rfl) (by kernel_rfl) (by kernel_rfl) (by exact fun _ _ _ h => h) (Or.inr ⟨by rfl, rfl⟩) (by assumption) ?_; simp only [Act.put, List.setIfInBounds_toArray, List.set_cons_zero, List.set_cons_succ, d7]) | fail
        first | (refine wpAnyH_take (i := 16) (v := ?_) (by simp only [List.getElem?_toArray, List.getElem?_cons_zero, List.getElem?_cons_succ]; rfl) (by kernel_rfl) (by kernel_rfl) (by kernel_rfl) (by exact fun _ _ _ h => h) (Or.inl ⟨by rfl, ?_⟩) (by assumption) ?_; rotate_left; (focus (intro w hSw; (try dsimp only at hSw); go_simp; try with_reducible rfl)); simp only [Act.put, List.setIfInBounds_toArray, List.set_cons_zero, List.set_cons_succ, d7]) | (refine wpAnyH_take (i := 16) (v := undef) (by simp only [List.getElem?_toArray, List.getElem?_cons_zero, List.getElem?_cons_succ]; rfl) (by kernel_rfl) (by kernel_rfl) (by kernel_rfl) (by exact fun _ _ _ h => h) (Or.inr ⟨by rfl, rfl⟩) (by assumption) ?_; simp only [Act.put, List.setIfInBounds_toArray, List.set_cons_zero, List.set_cons_succ, d7]) | fail
        first | (refine wpAnyH_take (i := 17) (v := ?_) (by simp only [List.getElem?_toArray, List.getElem?_cons_zero, List.getElem?_cons_succ]; rfl) (by kernel_rfl) (by kernel_rfl) (by kernel_rfl) (by exact fun _ _ _ h => h) (Or.inl ⟨by rfl, ?_⟩) (by assumption) ?_; rotate_left; (focus (intro w hSw; (try dsimp only at hSw); go_simp; try with_reducible rfl)); simp only [Act.put, List.setIfInBounds_toArray, List.set_cons_zero, List.set_cons_succ, d7]) | (refine wpAnyH_take (i := 17) (v := undef) (by simp only [List.getElem?_toArray, List.getElem?_cons_zero, List.getElem?_cons_succ]; rfl) (by kernel_rfl) (by kernel_rfl) (by kernel_rfl) (by exact fun _ _ _ h => h) (Or.inr ⟨by rfl, rfl⟩) (by assumption) ?_; simp only [Act.put, List.setIfInBounds_toArray, List.set_cons_zero, List.set_cons_succ, d7]) | fail
        first | (refine wpAnyH_take (i := 9) (v := undef) (by simp only [List.getElem?_toArray, List.getElem?_cons_zero, List.getElem?_cons_succ]; rfl) (by kernel_rfl) (by kernel_rfl) (by kernel_rfl) (by exact fun _ _ _ h => h) (Or.inr ⟨by rfl, rfl⟩) (by assumption) ?_; simp only [Act.put, List.setIfInBounds_toArray, List.set_cons_zero, List.set_cons_succ, d7]) | (refine wpAnyH_ready (rs := [9]) (by kernel_rfl) (by simp) ?_; refine AllReadyH.cons (by simp only [List.getElem?_toArray, List.getElem?_cons_zero, List.getElem?_cons_succ]; rfl) (fun K hK => ?_) AllReadyH.nil; go_simp; (first | (go_at_call 14; refine (cG _).mono ?_; rintro e w6 ⟨rfl, hB6⟩; have hS2 : (fun W => Below w.heap.size w W ∧ W.cell? (y.add (i * 4)) = some (.int .i64 x.s) ∧ W.cell? ⟨(y.add (i * 4)).block, (y.add (i * 4)).off + 1, none⟩ = some (.int .i64 x.c) ∧ W.cell? ⟨(y.add (i * 4)).block, (y.add (i * 4)).off + 2, none⟩ = some (.int .i64 x.i) ∧ W.cell? ⟨(y.add (i * 4)).block, (y.add (i * 4)).off + 3, none⟩ = some (.int .i64 x.k)) w6 := hkeep _ (Below.then hS1.1 hB6); obtain ⟨v7, w7, hap, ho7, hB7⟩ := hapx w6 (Below.then hB5 hB6); have hS3 : (fun W => Below w.heap.size w W ∧ W.cell? (y.add (i * 4)) = some (.int .i64 x.s) ∧ W.cell? ⟨(y.add (i * 4)).block, (y.add (i * 4)).off + 1, none⟩ = some (.int .i64 x.c) ∧ W.cell? ⟨(y.add (i * 4)).block, (y.add (i * 4)).off + 2, none⟩ = some (.int .i64 x.i) ∧ W.cell? ⟨(y.add (i * 4)).block, (y.add (i * 4)).off + 3, none⟩ = some (.int .i64 x.k)) (w6.alloc (.cells #[.string (chr (97 + i)), .int .i64 ((i : Int) * 7), .int .u64 (H : Int), .int .i64 (goodL x).s, .int .i64 (goodL x).c, .int .i64 (goodL x).i, .int .i64 (goodL x).k, .bool ((i : Int) % 2 == 0)] 40)) := hkeep _ (Below.then hS2.1 (alloc_below _ _)); have hS4 : (fun W => Below w.heap.size w W ∧ W.cell? (y.add (i * 4)) = some (.int .i64 x.s) ∧ W.cell? ⟨(y.add (i * 4)).block, (y.add (i * 4)).off + 1, none⟩ = some (.int .i64 x.c) ∧ W.cell? ⟨(y.add (i * 4)).block, (y.add (i * 4)).off + 2, none⟩ = some (.int .i64 x.i) ∧ W.cell? ⟨(y.add (i * 4)).block, (y.add (i * 4)).off + 3, none⟩ = some (.int .i64 x.k)) w7 := hkeep _ (hS2.1.trans hB7)) | (go_at_call 19; refine (cO _).mono ?_; rintro e w5 ⟨rfl, hB5⟩; have hS1 : (fun W => Below w.heap.size w W ∧ W.cell? (y.add (i * 4)) = some (.int .i64 x.s) ∧ W.cell? ⟨(y.add (i * 4)).block, (y.add (i * 4)).off + 1, none⟩ = some (.int .i64 x.c) ∧ W.cell? ⟨(y.add (i * 4)).block, (y.add (i * 4)).off + 2, none⟩ = some (.int .i64 x.i) ∧ W.cell? ⟨(y.add (i * 4)).block, (y.add (i * 4)).off + 3, none⟩ = some (.int .i64 x.k)) w5 := hkeep _ (Below.then hS0.1 hB5))); refine hK.out _ _ (by first | exact hS4 | exact hS3 | exact hS2 | exact hS1 | exact hS0) ?_; clear hHeld hK; intro hHeld; (try simp only [Act.put, List.setIfInBounds_toArray, List.set_cons_zero, List.set_cons_succ, d7])) | fail
        first | (refine wpAnyH_take (i := 14) (v := undef) (by simp only [List.getElem?_toArray, List.getElem?_cons_zero, List.getElem?_cons_succ]; rfl) (by kernel_rfl) (by kernel_rfl) (by kernel_rfl) (by exact fun _ _ _ h => h) (Or.inr ⟨by rfl, rfl⟩) (by assumption) ?_; simp only [Act.put, List.setIfInBounds_toArray, List.set_cons_zero, List.set_cons_succ, d7]) | (refine wpAnyH_ready (rs := [14]) (by kernel_rfl) (by simp) ?_; refine AllReadyH.cons (by simp only [List.getElem?_toArray, List.getElem?_cons_zero, List.getElem?_cons_succ]; rfl) (fun K hK => ?_) AllReadyH.nil; go_simp; (first | (go_at_call 14; refine (cG _).mono ?_; rintro e w6 ⟨rfl, hB6⟩; have hS2 : (fun W => Below w.heap.size w W ∧ W.cell? (y.add (i * 4)) = some (.int .i64 x.s) ∧ W.cell? ⟨(y.add (i * 4)).block, (y.add (i * 4)).off + 1, none⟩ = some (.int .i64 x.c) ∧ W.cell? ⟨(y.add (i * 4)).block, (y.add (i * 4)).off + 2, none⟩ = some (.int .i64 x.i) ∧ W.cell? ⟨(y.add (i * 4)).block, (y.add (i * 4)).off + 3, none⟩ = some (.int .i64 x.k)) w6 := hkeep _ (Below.then hS1.1 hB6); obtain ⟨v7, w7, hap, ho7, hB7⟩ := hapx w6 (Below.then hB5 hB6); have hS3 : (fun W => Below w.heap.size w W ∧ W.cell? (y.add (i * 4)) = some (.int .i64 x.s) ∧ W.cell? ⟨(y.add (i * 4)).block, (y.add (i * 4)).off + 1, none⟩ = some (.int .i64 x.c) ∧ W.cell? ⟨(y.add (i * 4)).block, (y.add (i * 4)).off + 2, none⟩ = some (.int .i64 x.i) ∧ W.cell? ⟨(y.add (i * 4)).block, (y.add (i * 4)).off + 3, none⟩ = some (.int .i64 x.k)) (w6.alloc (.cells #[.string (chr (97 + i)), .int .i64 ((i : Int) * 7), .int .u64 (H : Int), .int .i64 (goodL x).s, .int .i64 (goodL x).c, .int .i64 (goodL x).i, .int .i64 (goodL x).k, .bool ((i : Int) % 2 == 0)] 40)) := hkeep _ (Below.then hS2.1 (alloc_below _ _)); have hS4 : (fun W => Below w.heap.size w W ∧ W.cell? (y.add (i * 4)) = some (.int .i64 x.s) ∧ W.cell? ⟨(y.add (i * 4)).block, (y.add (i * 4)).off + 1, none⟩ = some (.int .i64 x.c) ∧ W.cell? ⟨(y.add (i * 4)).block, (y.add (i * 4)).off + 2, none⟩ = some (.int .i64 x.i) ∧ W.cell? ⟨(y.add (i * 4)).block, (y.add (i * 4)).off + 3, none⟩ = some (.int .i64 x.k)) w7 := hkeep _ (hS2.1.trans hB7)) | (go_at_call 19; refine (cO _).mono ?_; rintro e w5 ⟨rfl, hB5⟩; have hS1 : (fun W => Below w.heap.size w W ∧ W.cell? (y.add (i * 4)) = some (.int .i64 x.s) ∧ W.cell? ⟨(y.add (i * 4)).block, (y.add (i * 4)).off + 1, none⟩ = some (.int .i64 x.c) ∧ W.cell? ⟨(y.add (i * 4)).block, (y.add (i * 4)).off + 2, none⟩ = some (.int .i64 x.i) ∧ W.cell? ⟨(y.add (i * 4)).block, (y.add (i * 4)).off + 3, none⟩ = some (.int .i64 x.k)) w5 := hkeep _ (Below.then hS0.1 hB5))); refine hK.out _ _ (by first | exact hS4 | exact hS3 | exact hS2 | exact hS1 | exact hS0) ?_; clear hHeld hK; intro hHeld; (try simp only [Act.put, List.setIfInBounds_toArray, List.set_cons_zero, List.set_cons_succ, d7])) | fail
        first | (refine wpAnyH_take (i := 18) (v := ?_) (by simp only [List.getElem?_toArray, List.getElem?_cons_zero, List.getElem?_cons_succ]; rfl) (by kernel_rfl) (by kernel_rfl) (by kernel_rfl) (by exact fun _ _ _ h => h) (Or.inl ⟨by rfl, ?_⟩) (by assumption) ?_; rotate_left; (focus (intro w hSw; (try dsimp only at hSw); go_simp; try with_reducible rfl)); simp only [Act.put, List.setIfInBounds_toArray, List.set_cons_zero, List.set_cons_succ, d7]) | (refine wpAnyH_take (i := 18) (v := undef) (by simp only [List.getElem?_toArray, List.getElem?_cons_zero, List.getElem?_cons_succ]; rfl) (by kernel_rfl) (by kernel_rfl) (by kernel_rfl) (by exact fun _ _ _ h => h) (Or.inr ⟨by rfl, rfl⟩) (by assumption) ?_; simp only [Act.put, List.setIfInBounds_toArray, List.set_cons_zero, List.set_cons_succ, d7]) | fail
        refine wpAnyH_ready (rs := [19]) (by kernel_rfl) (by simp) ?_; refine AllReadyH.cons (by simp only [List.getElem?_toArray, List.getElem?_cons_zero, List.getElem?_cons_succ]; rfl) (fun K hK => ?_) AllReadyH.nil; go_simp; refine hK.out _ _ (by first | exact hS4 | exact hS3 | exact hS2 | exact hS1 | exact hS0) ?_; clear hHeld hK; intro hHeld; (try simp only [Act.put, List.setIfInBounds_toArray, List.set_cons_zero, List.set_cons_succ, d7])
        refine wpAnyH_ready (rs := [20]) (by kernel_rfl) (by simp) ?_; refine AllReadyH.cons (by simp only [List.getElem?_toArray, List.getElem?_cons_zero, List.getElem?_cons_succ]; rfl) (fun K hK => ?_) AllReadyH.nil; refine step_append_usr rfl _ _ rfl rfl rfl rfl hap ?_; simp only [Act.put, List.setIfInBounds_toArray, List.set_cons_zero, List.set_cons_succ, d7]; refine hK.out _ _ (by first | exact hS4 | exact hS3 | exact hS2 | exact hS1 | exact hS0) ?_; clear hHeld hK; intro hHeld; (try simp only [Act.put, List.setIfInBounds_toArray, List.set_cons_zero, List.set_cons_succ, d7])
        first | (refine wpAnyH_take (i := 21) (v := ?_) (by simp only [List.getElem?_toArray, List.getElem?_cons_zero, List.getElem?_cons_succ]; rfl) (by kernel_rfl) (by kernel_rfl) (by kernel_rfl) (by exact fun _ _ _ h => h) (Or.inl ⟨by rfl, ?_⟩) (by assumption) ?_; rotate_left; (focus (intro w hSw; (try dsimp only at hSw); go_simp; try with_reducible rfl)); simp only [Act.put, List.setIfInBounds_toArray, List.set_cons_zero, List.set_cons_succ, d7]) | (refine wpAnyH_take (i := 21) (v := undef) (by simp only [List.getElem?_toArray, List.getElem?_cons_zero, List.getElem?_cons_succ]; rfl) (by kernel_rfl) (by kernel_rfl) (by kernel_rfl) (by exact fun _ _ _ h => h) (Or.inr ⟨by rfl, rfl⟩) (by assumption) ?_; simp only [Act.put, List.setIfInBounds_toArray, List.set_cons_zero, List.set_cons_succ, d7]) | fail
        refine wpAnyH_done (by kernel_rfl) ?_ _
        go_wp2_with fail
        exact ⟨⟨i + 1, by omega, by omega, by simp, ho7, hS4.1⟩, by simp [Go.RowKit.intOf]; omega⟩
      · obtain rfl : i = 8 := by omega
        have hd8 : decide ((8 : Int) < 8) = false := by decide
        go_wp2_with fail
        go_ret
        exact ⟨_, rfl, ho, hB⟩
    · have he : someTo l i = someTo l 8 := by
        unfold someTo
        rw [List.take_of_length_le (by omega), List.take_of_length_le (by omega)]
      rw [he] at ho
      have hni : ¬ (i : Int) < (n : Int) := by omega
      go_wp2_with fail
      go_ret
      exact ⟨_, rfl, ho, hB⟩
end Go.Proofs.Ytagpjihhnnmhnaa
