/-
  Write FROM A SLICE THAT LIES ANYWHERE; A DISK WHOSE SECTOR 0 WAS WRITTEN BEHIND A FLUSH.
-/
import Derived.Test.YtcnejanckolklaaStaysBase
import Derived.Test.YtcnejanckolklaaDiskSector
namespace Go.Proofs.Ytcnejanckolklaa
open Go.RowKit Go.Maps

/-- copy into a block that is new. -/
theorem copy_from (w : World) (t : TypeId) (l0 l : List Int) (h0 : l0.length = 128) (hl : l.length = 128) (ad : Addr) (c1 c2 : Nat) (hr : ∀ j, j < 128 → w.cell? (ad.add j) = some (.int .u8 (l.getD j 0))) :
    (Builtin.copy_ #[31, 31] 3 #[.slice (some ⟨w.heap.size, 0, none⟩) 128 c1, .slice (some ad) 128 c2]).run Try.prog (w.alloc (.cells (rowOf l0) t)) = .ok (.int .i64 128) (w.alloc (.cells (rowOf l) t)) := by
  have h := run_copy_row Try.prog (w.alloc (.cells (rowOf l0) t)) 31 31 3 5 w.heap.size 0 128 c1 ad 128 c2 (rowOf l0) t (cellsOf l)
    Try.underlying31 (by kernel_rfl) (heap_alloc_new w _) (by rw [cells_len, hl]; rfl) (fun j v hv => by
      have hj : j < 128 := by have := (List.getElem?_eq_some_iff.1 hv).1; rw [cells_len, hl] at this; exact this
      rw [World.cell?_alloc_lt _ _ _ (World.block_lt_of_cell? w _ (hr j hj)), hr j hj, ← hv]
      simp [cellsOf, hl, hj]) (by simp [rowOf, cells_len, h0, hl]) (cells_one l)
  rw [World.setRow_alloc_new] at h
  rw [h]
  have e : ((rowOf l0).toList.take 0 ++ cellsOf l ++ (rowOf l0).toList.drop (0 + (cellsOf l).length)).toArray = rowOf l := by
    simp [rowOf, cells_len, hl, h0]
  rw [e, cells_len, hl]
  rfl

section
variable {w : World} {db pb mb n nn : Nat} {pl : Nat → List Int} {D : DataW (List Int)} {ops left : Int} {dead : Bool}

set_option maxHeartbeats 400000 in
/-- The begun operation, from behind 'begin' on, in whatever world. -/
theorem write_lays_from (h : DiskAt w db pb mb n nn pl D ops left false) (k : Int) (l : List Int) (hsl : Sec l) (ad : Addr) (cap : Nat) (hr : ∀ j, j < 128 → w.cell? (ad.add j) = some (.int .u8 (l.getD j 0)) ∧ (ad.add j).block ≠ db) (hk : 0 ≤ k) (hkn : k < n) (hnn : nn < 1000000)
    (ops' left' : Int)
    (cb : Calls Try.prog 22 #[.pointer (some ⟨db, 0, none⟩)] w fun e w' => e = .returned (.bool true) ∧ DiskAt w' db pb mb n nn pl D ops' left' false ∧ Kept [db] w w') :
    Calls Try.prog 9 #[.pointer (some ⟨db, 0, none⟩), .int .i64 k, .slice (some ad) 128 cap] w fun e w' => e = .returned (.int .i64 0) ∧
      DiskAt w' db pb mb n (nn + 1) pl (D.put (.int .i64 k) (.held l)) ops' left' false ∧ Kept [db, mb] w w' := by
  have c4 := h.c4
  have ch := has_any h k
  have hb : (decide (0 ≤ k) && decide (k < n)) = true := by simp [hk, hkn]
  rw [hb] at ch
  go_enter Try.func9, Try.ntmps9
  go_wp2_with fail
  refine ch.mono ?_
  rintro e w' ⟨rfl, rfl⟩
  go_wp2_with fail
  refine cb.mono ?_
  rintro e w1 ⟨rfl, hD, hK⟩
  have hr1 : ∀ j, j < 128 → w1.cell? (ad.add j) = some (.int .u8 (l.getD j 0)) := fun j hj =>
    (World.cell?_of_block (hK.block _ (World.block_lt_of_cell? w' _ (hr j hj).1) (by simpa using (hr j hj).2))).trans (hr j hj).1
  have hcp := copy_from w1 58 zeros l zeros_sec.1 hsl.1 ad 128 cap hr1
  have hld := load_new w1 l hsl.1
  have c1 := (hD.alloc (.cells (rowOf l) 58)).c1
  have hm := (hD.buf.alloc (.cells (rowOf l) 58)).drew
  have hrg : (w1.alloc (.cells (rowOf l) 58)).rangeAt w1.heap.size 0 (cellsOf l) := range_new w1 l 58
  obtain ⟨w2, hst, hm2, htn⟩ := hm.store int_key Try.underlying53 (by unfold maxLen; omega) (keyOf_int_mk (a := k) Try.underlying3 (WalkArith.wf_i64 (by have := hD.nhi; omega))) (secR_mk hsl)
  have hk2 : Kept [mb] (w1.alloc (.cells (rowOf l) 58)) w2 := (Kept.refl _ _).drew.grown htn.grown (fun k hk => Or.inl (by cases hk; simp))
  have hst' : (Instr.mapUpdate 53 (.map (some mb)) (.int .i64 k) (.agg (cellsOf l).toArray)).run Try.prog (w1.alloc (.cells (rowOf l) 58)).drew = .ok () w2 := hst
  have hS0 : (w1.alloc (.cells (rowOf l) 58)).drew.cell? ⟨db, 1, none⟩ = some (.map (some mb)) ∧ (w1.alloc (.cells (rowOf l) 58)).drew.rangeAt w1.heap.size 0 (cellsOf l) := ⟨c1, hrg⟩
  have hS2 : w2.cell? ⟨db, 1, none⟩ = some (.map (some mb)) ∧ w2.rangeAt w1.heap.size 0 (cellsOf l) :=
    ⟨(World.cell?_of_block (hk2.block db (by simp; exact Nat.lt_succ_of_lt hD.dbl) (by simpa using hD.dm))).trans c1, rangeAt_of_block (hk2.block _ (by simp) (by simp; have := hD.mbl; omega)) hrg⟩
  have hu : Try.prog.underlying 58 = some (.array 128 5) := Try.underlying58
  have hi : (Try.prog.info? 58).map (·.size) = some (cellsOf l).length := by rw [size_sec, cells_len, hsl.1]
  have hcl : (cellsOf l).length = 128 := by rw [cells_len, hsl.1]
  have hon := cells_one l
  clear hr1 hr h c4 ch cb hst
  go_wp2_with (first
    | (refine wpList_alloc_sec rfl rfl ?_)
    | (refine wpList_slice_sec rfl _ rfl _ rfl ?_)
    | fail)
  go_region_held3 (fun w' => w'.cell? ⟨db, 1, none⟩ = some (.map (some mb)) ∧ w'.rangeAt w1.heap.size 0 (cellsOf l)) (first | exact hS0 | exact hS2) (fail)
  go_wp2
  go_ret
  exact ⟨rfl, (hD.alloc _).turn hk2 hm2 (hD.put_keys hk hkn _), ((hK.mono (by simp)).alloc _).trans (hk2.mono (by simp))⟩

set_option maxHeartbeats 400000 in
/-- Write, where it is done. -/
theorem write_from (h : DiskAt w db pb mb n nn pl D ops left false) (k : Int) (l : List Int) (hsl : Sec l) (ad : Addr) (cap : Nat) (hr : ∀ j, j < 128 → w.cell? (ad.add j) = some (.int .u8 (l.getD j 0)) ∧ (ad.add j).block ≠ db) (hk : 0 ≤ k) (hk2 : k < n) (hnn : nn < 1000000)
    (ho : 0 ≤ ops) (ho2 : ops < 1000000) (hl : left ≠ 1) (hl2 : left < 9223372036854775808) :
    Calls Try.prog 9 #[.pointer (some ⟨db, 0, none⟩), .int .i64 k, .slice (some ad) 128 cap] w fun e w' => e = .returned (.int .i64 0) ∧
      DiskAt w' db pb mb n (nn + 1) pl (D.put (.int .i64 k) (.held l)) (ops + 1) (if 1 < left then left - 1 else left) false ∧ Kept [db, mb] w w' := by
  by_cases hg : 1 < left
  · rw [if_pos hg]
    exact write_lays_from h k l hsl ad cap hr hk hk2 hnn _ _ (begin_counts h hg ho ho2 hl2)
  · rw [if_neg hg]
    exact write_lays_from h k l hsl ad cap hr hk hk2 hnn _ _ (begin_goes h (by omega) ho ho2)
end

/-- Sector 0: x is on the platter, y in the buffer; whatever else is there. -/
def StaysAt (w : World) (db pb mb K : Nat) (x y : List Int) : Prop :=
  ∃ (nn : Nat) (pl : Nat → List Int) (D : DataW (List Int)) (ops : Int), DiskAt w db pb mb 9 nn pl D ops 0 false ∧ pl 0 = x ∧ Maps.has D (.int .i64 0) = true ∧ bufAt D 0 = y ∧ nn ≤ K ∧ 0 ≤ ops ∧ ops ≤ K

theorem StaysAt.kept {w w' : World} {db pb mb K : Nat} {x y : List Int} (h : StaysAt w db pb mb K x y) (k : Kept [] w w') : StaysAt w' db pb mb K x y := by
  obtain ⟨nn, pl, D, ops, d, r⟩ := h
  exact ⟨nn, pl, D, ops, d.kept k (by simp) (by simp) (by simp), r⟩

/-- A number that the buffer has is told. -/
theorem key_of_has {w : World} {mb nn : Nat} {D : DataW (List Int)} (h : w.ownsMap Try.prog 3 secR mb nn D) {x : Int} (hx : Maps.has D (.int .i64 x) = true) : x ∈ intKeys D := by
  obtain ⟨es, rfl⟩ := h.isMap
  rw [Maps.has_eq] at hx
  obtain ⟨p, hp, hpk⟩ := List.any_eq_true.1 hx
  have e := WideAt.sameKey_eq hpk
  simp only [intKeys, List.mem_map]
  exact ⟨p, hp, by rw [e]; rfl⟩

/-- A Write elsewhere, whatever it is. -/
theorem stays_write {w : World} {db pb mb K : Nat} {x y : List Int} (h : StaysAt w db pb mb K x y) (hK : K < 1000) (k : Int) (hk : k ≠ 0) (a : Option Addr) (len cap : Nat) (l : List Int) (hl : l.length = len) (ok : ∀ v ∈ l, 0 ≤ v ∧ v < 256)
    (hc : ∀ j, j < len → ∃ ad, a = some ad ∧ w.cell? (ad.add j) = some (.int .u8 (l.getD j 0)) ∧ (ad.add j).block ≠ db) :
    Calls Try.prog 9 #[.pointer (some ⟨db, 0, none⟩), .int .i64 k, .slice a len cap] w fun e w' => ∃ v, e = .returned (.int .i64 v) ∧ StaysAt w' db pb mb (K + 1) x y ∧ Kept [db, mb] w w' := by
  obtain ⟨nn, pl, D, ops, d, hx, hh, hy, hn, ho, ho2⟩ := h
  by_cases hok : (decide (0 ≤ k) && decide (k < (9 : Nat))) = true ∧ len = 128
  · obtain ⟨h1, rfl⟩ := hok
    simp at h1
    obtain ⟨ad, rfl, _⟩ := hc 0 (by decide)
    have hc' : ∀ j, j < 128 → w.cell? (ad.add j) = some (.int .u8 (l.getD j 0)) ∧ (ad.add j).block ≠ db := fun j hj => by
      obtain ⟨ad', e, h⟩ := hc j hj
      cases e
      exact h
    refine (write_from d k l ⟨hl, ok⟩ ad cap hc' h1.1 (by omega) (by omega) ho (by omega) (by decide) (by decide)).mono fun e w' ⟨he, d', hk'⟩ => ⟨0, he, ⟨nn + 1, pl, _, ops + 1, d', hx, ?_, ?_, by omega, by omega, by omega⟩, hk'⟩
    · rw [Maps.has_put_other (by simpa using Ne.symm hk)]
      exact hh
    · unfold bufAt
      rw [Maps.atKey_put_other (by simpa using Ne.symm hk)]
      exact hy
  · have hno : (decide (0 ≤ k) && decide (k < (9 : Nat))) = false ∨ len ≠ 128 := by
      by_cases h2 : len = 128
      · left
        cases hb : (decide (0 ≤ k) && decide (k < (9 : Nat))) with
        | false => rfl
        | true => exact absurd ⟨hb, h2⟩ hok
      · exact Or.inr h2
    exact (write_refuses d k a len cap hno).mono fun e w' ⟨he, hw⟩ => ⟨1, he, by rw [hw]; exact ⟨nn, pl, D, ops, d, hx, hh, hy, by omega, ho, by omega⟩, by rw [hw]; exact Kept.refl _ _⟩

/-- The crash: sector 0 has a front of y and the rest of x. -/
theorem stays_crash {w : World} {db pb mb K : Nat} {x y : List Int} (h : StaysAt w db pb mb K x y) (hK : K < 1000) (pick : Int) (g : Nat) (hg : w.heap[g]? = some (.cells #[.int .i64 pick] 3 (0, 0))) (hgp : g ≠ pb) :
    Calls Try.prog 17 #[.pointer (some ⟨db, 0, none⟩), .slice (some ⟨g, 0, none⟩) 1 1] w fun e w' => ∃ v pl' ops', e = .returned (.int .i64 v) ∧ DiskAt w' db pb mb 9 0 pl' (.map []) ops' 0 false ∧ pl' 0 = y.take (frontOf pick).toNat ++ x.drop (frontOf pick).toNat ∧ Kept [db, pb, mb] w w' := by
  obtain ⟨nn, pl, D, ops, d, hx, hh, hy, hn, ho, ho2⟩ := h
  refine (crash_any d (by omega) [pick] (some ⟨g, 0, none⟩) 1 (Or.inr ⟨g, 0, rfl, fun j v hv => by
      cases j with
      | zero => simp at hv; subst hv; rw [cell_of_row _ _ _ _ _ (0, 0) hg]; rfl
      | succ j => simp at hv, hgp, (Array.getElem?_eq_some_iff.1 hg).1⟩)).mono fun e w' ⟨ks, hp, hs, he, d', hk⟩ => ⟨_, _, _, he, d', ?_, hk⟩
  have h0 : (0 : Int) ∈ ks := hp.mem_iff.2 (key_of_has d.buf hh)
  have hlo : ∀ v ∈ ks, 0 ≤ v := fun v hv => (d.keys v (has_of_key d.buf (hp.mem_iff.1 hv))).1
  obtain ⟨f1, f2⟩ := first_nought hs (hp.nodup_iff.2 (keys_nodup d.buf)) h0 hlo
  have := crashTo_first D [pick] ks pl 0 ks.length (List.length_pos_of_mem h0) f1 f2
  rw [hy] at this
  rw [← hx]
  exact this
end Go.Proofs.Ytcnejanckolklaa
