/-
  WHAT A FLUSH AND A CRASH DO TO THE PLATTER AND TO THE BUFFER: laws beside the walks.
-/
import Derived.Test.YtgjnlocokkjejaaDiskRead
import Derived.Lib.SlKeysI
namespace Go.Proofs.Ytgjnlocokkjejaa
open Go.RowKit Go.Maps

/-- clear(m). -/
theorem clear_any {w : World} {mb nn : Nat} {D : DataW (List Int)} (h : w.ownsMap Try.prog 3 secR mb nn D) :
    ∃ w', (Builtin.clear_ #[73] 0 #[.map (some mb)]).run Try.prog w = .ok (.tuple #[]) w' ∧ w'.ownsMap Try.prog 3 secR mb 0 (.map []) ∧ w.grownBy w' (some mb) := by
  obtain ⟨es, clock, hb, F, hs, rfl⟩ := h
  refine ⟨ChangeMaps.setBlock w mb (.map #[] clock), ?_, ?_, ?_⟩
  · simp [Builtin.clear_, run_underlying Try.underlying73, MapKept.run_getObj_map hb, MapKept.run_setObj_map _ hb, Result.andThen, ChangeMaps.setBlock]
  · exact ⟨#[], clock, ChangeMaps.heap_setBlock_same hb _, ⟨by simp, MapKept.stamped_empty clock, by simp⟩, Nat.le_refl _, rfl⟩
  · exact ⟨rfl, rfl, rfl, by simp [ChangeMaps.setBlock], fun i _ hi => ChangeMaps.heap_setBlock_other hb _ (fun e => hi (by rw [e]))⟩

theorem empty_keys (n : Nat) : ∀ k, Maps.has (DataW.map ([] : List (Lit × DataW (List Int)))) (.int .i64 k) = true → 0 ≤ k ∧ k < (n : Int) := by
  intro k hk
  simp [Maps.has] at hk

/-- Every key that is told is a key. -/
theorem has_of_key {w : World} {mb nn : Nat} {D : DataW (List Int)} (h : w.ownsMap Try.prog 3 secR mb nn D) {x : Int} (hx : x ∈ intKeys D) : Maps.has D (.int .i64 x) = true := by
  obtain ⟨es, clock, hb, F, hs, rfl⟩ := h
  simp only [intKeys, List.mem_map] at hx
  obtain ⟨p, hp, rfl⟩ := hx
  have hp' := hp
  rw [mem_sorted] at hp'
  obtain ⟨e, he, rfl⟩ := List.mem_map.1 hp'
  obtain ⟨y, hy⟩ := F.reads e he
  obtain ⟨z, ez, e2, _⟩ := Maps.keyOf_int_inv Try.underlying3 (WideElems.rd_key hy)
  have e3 : (WideElems.rg Try.prog 3 secR e).1 = .int .i64 z := by rw [WideElems.rg_of hy, e2]
  rw [e3]
  refine List.any_eq_true.2 ⟨_, hp, ?_⟩
  rw [e3]
  simp [Lit.sameKey]
  rfl

section
variable {w w' : World} {pb n : Nat} {pl : Nat → List Int}
/-- A front of a sector laid over the platter's. -/
theorem Plat.front (h : Plat w pb n pl) (k f : Nat) (hk : k < n) (hf : f ≤ 128) (l : List Int) (hs : Sec l) :
    Plat (w.setCells pb (k * 128) (cellsOf (l.take f))) pb n (fun j => if j = k then l.take f ++ (pl j).drop f else pl j) := by
  have hlen : (cellsOf (l.take f)).length = f := by rw [cells_len, List.length_take, hs.1]; omega
  intro j hj
  obtain ⟨hsj, hrj, htj⟩ := h j hj
  refine ⟨?_, ?_, World.there_setCells htj _ _ _⟩
  · by_cases e : j = k
    · simp only [e, if_true]
      rw [e] at hsj
      refine ⟨by rw [List.length_append, List.length_take, List.length_drop, hs.1, hsj.1]; omega, fun x hx => ?_⟩
      rcases List.mem_append.1 hx with hx | hx
      · exact hs.2 x (List.mem_of_mem_take hx)
      · exact hsj.2 x (List.mem_of_mem_drop hx)
    · simp only [e, if_false]; exact hsj
  · by_cases e : j = k
    · subst e
      simp only [if_true]
      intro i v hv
      have hi : i < 128 := by
        have := (List.getElem?_eq_some_iff.1 hv).1
        rw [cells_len, List.length_append, List.length_take, List.length_drop, hs.1, hsj.1] at this
        omega
      by_cases hif : i < f
      · have hin := World.cell?_setCells_in pb (cellsOf (l.take f)) (j * 128) w (fun q hq => (htj q (by omega)).1) i (by omega)
        rw [hin, ← hv, List.getElem?_eq_getElem (by rw [cells_len, List.length_append, List.length_take, hs.1]; omega)]
        congr 1
        simp only [cellsOf, List.map_append]
        rw [List.getElem_append_left]
      · rw [World.cell?_setCells_out pb _ _ _ _ (fun _ _ => Or.inr (by rw [hlen]; show j * 128 + f ≤ j * 128 + i; omega))]
        refine hrj i v ?_
        simp only [cellsOf, List.map_append] at hv ⊢
        rw [List.getElem?_append_right (by simp [hs.1]; omega)] at hv
        simp only [List.length_map, List.length_take, hs.1] at hv
        have e1 : min f 128 = f := by omega
        rw [e1, List.map_drop, List.getElem?_drop] at hv
        rwa [show f + (i - f) = i by omega] at hv
    · simp only [e, if_false]
      refine World.rangeAt_setCells_apart hrj _ _ _ (Or.inr ?_)
      rw [hlen, cells_len, hsj.1]
      rcases Nat.lt_or_gt_of_ne e with h1 | h1
      · left; omega
      · right; omega
end

section
variable {w w' : World} {db pb mb n nn : Nat} {pl pl' : Nat → List Int} {D : DataW (List Int)} {ops left : Int} {dead : Bool}
/-- The platter has turned. -/
theorem DiskAt.lay (h : DiskAt w db pb mb n nn pl D ops left dead) (k : Kept [pb] w w') (hp : Plat w' pb n pl') : DiskAt w' db pb mb n nn pl' D ops left dead :=
  ⟨(k.block db h.dbl (by simpa using h.dp)).trans h.own, hp, Nat.lt_of_lt_of_le h.pbl k.size, ownsMap_of_block (k.block mb h.mbl (by simpa using h.pm.symm)) h.buf, h.keys, h.dp, h.pm, h.nlo, h.nhi⟩
end

theorem Kept.to_grown {b : Nat} {w w' : World} (h : Kept [b] w w') : w.grownBy w' (some b) :=
  ⟨h.os, h.tape, h.output, h.size, fun k hk hne => h.block k hk (by simpa using hne)⟩

/-- copy of a front of a sector into the platter. -/
theorem copy_front (w : World) (pb o g f : Nat) (l : List Int) (hl : l.length = 128) (hf : f ≤ 128) (ht : w.there pb o 128) (hr : w.rangeAt g 0 (cellsOf l)) :
    (Builtin.copy_ #[31, 31] 3 #[.slice (some ⟨pb, o, none⟩) f 128, .slice (some ⟨g, 0, none⟩) 128 128]).run Try.prog w = .ok (.int .i64 (f : Int)) (w.setCells pb o (cellsOf (l.take f))) := by
  have hlen : (cellsOf (l.take f)).length = f := by rw [cells_len, List.length_take, hl]; omega
  have := run_copy_cells (P := Try.prog) w 31 31 3 5 pb o f 128 ⟨g, 0, none⟩ 128 128 (cellsOf (l.take f)) Try.underlying31 (by kernel_rfl) (by rw [hlen]; show f = min 128 f; omega)
    (fun j v hv => by
      rw [Addr.add_mid]
      refine hr j v ?_
      have hj := (List.getElem?_eq_some_iff.1 hv).1
      simp only [cellsOf, List.map_take] at hv ⊢
      rw [List.getElem?_take] at hv
      split at hv
      · exact hv
      · cases hv) (fun j hj => (ht j (by omega)).1) (fun j hj => (ht j (by omega)).2) (cells_one _)
  rw [this, hlen]
  rfl

/-- x[:f] of a sector in place. -/
theorem sec_front (b o : Nat) (f : Int) (h0 : 0 ≤ f) (h1 : f ≤ 128) (w : World) : (Instr.sliceAt 78 (.pointer (some ⟨b, o, none⟩)) none (some (.int .i64 f)) none).run Try.prog w = .ok (.slice (some ⟨b, o, none⟩) f.toNat 128) w := by
  simp [Instr.sliceAt, run_underlying Try.underlying78, Instr.sureAddr, Instr.sliceBounds, Addr.add_mid, Instr.sliceBound, asIntOf, h0, h1]

/-- One sector of a crash. -/
def crashStep (D : DataW (List Int)) (pick k : Int) (pl : Nat → List Int) : Nat → List Int :=
  fun j => if j = k.toNat then (bufAt D k).take (frontOf pick).toNat ++ (pl j).drop (frontOf pick).toNat else pl j
/-- The platter behind the first i sectors of a crash. -/
def crashTo (D : DataW (List Int)) (picks ks : List Int) (pl : Nat → List Int) : Nat → Nat → List Int
  | 0 => pl
  | i + 1 => crashStep D (picks.getD i 0) (ks.getD i 0) (crashTo D picks ks pl i)

/-- The platter of a flush under way. -/
def flushTo (D : DataW (List Int)) (left : Lit → Bool) (pl : Nat → List Int) : Nat → List Int :=
  fun j => if Maps.has D (.int .i64 j) = true ∧ left (.int .i64 j) = false then bufAt D j else pl j

theorem flush_start (D : DataW (List Int)) (pl : Nat → List Int) : flushTo D (Maps.has D) pl = pl := by
  funext j
  unfold flushTo
  split
  · rename_i h
    rw [h.1] at h
    cases h.2
  · rfl
theorem flush_end (D : DataW (List Int)) (left : Lit → Bool) (pl : Nat → List Int) (h : ∀ kl, left kl = false) : flushTo D left pl = fun j : Nat => newestOf D pl j := by
  funext j
  simp [flushTo, newestOf, h]
theorem flush_step (D : DataW (List Int)) (left : Lit → Bool) (pl : Nat → List Int) (x : Int) (hx : 0 ≤ x) (l : List Int) (hl : l.length = 128) (hat : ∀ zd, D.atKey (.int .i64 x) zd = .held l) (hp : ∀ j, (flushTo D left pl j).length = 128 ∨ j ≠ x.toNat) :
    (fun j => if j = x.toNat then l.take 128 ++ (flushTo D left pl j).drop 128 else flushTo D left pl j) = flushTo D (fun z => left z && !z.sameKey (.int .i64 x)) pl := by
  have hh : Maps.has D (.int .i64 x) = true := Maps.has_true_of_atKey hat
  have hb : bufAt D x = l := by simp only [bufAt, hat]
  funext j
  by_cases e : j = x.toNat
  · rw [if_pos e]
    have e1 : (j : Int) = x := by omega
    have e2 : (flushTo D left pl j).drop 128 = [] := by
      rcases hp j with h | h
      · exact List.drop_eq_nil_of_le (by omega)
      · exact absurd e h
    rw [e2, List.take_of_length_le (by omega), List.append_nil]
    unfold flushTo
    rw [e1, if_pos ⟨hh, by simp [Lit.sameKey]⟩, hb]
  · rw [if_neg e]
    have e1 : ¬ (j : Int) = x := by omega
    unfold flushTo
    simp [Lit.sameKey, e1]
end Go.Proofs.Ytgjnlocokkjejaa
