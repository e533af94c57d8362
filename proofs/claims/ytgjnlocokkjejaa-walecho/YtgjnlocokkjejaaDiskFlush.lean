/-
  THE CONTRACT OF (*Disk).Flush.
-/
import Derived.Test.YtgjnlocokkjejaaDiskTurn
namespace Go.Proofs.Ytgjnlocokkjejaa
open Go.RowKit Go.Maps

theorem secOf_inj {l l' : List Int} (h : secOf l = secOf l') : l = l' := by
  have h1 : (cellsOf l).toArray = (cellsOf l').toArray := by
    unfold secOf at h
    injection h
  have h2 : cellsOf l = cellsOf l' := by simpa using h1
  rw [← byteOf_cells l, ← byteOf_cells l', h2]

section
variable {w : World} {db pb mb n nn : Nat} {pl : Nat → List Int} {D : DataW (List Int)} {ops left : Int} {dead : Bool}

set_option maxRecDepth 4000 in
set_option maxHeartbeats 400000 in
theorem flush_dead (h : DiskAt w db pb mb n nn pl D ops left true) :
    Calls Try.prog 16 #[.pointer (some ⟨db, 0, none⟩)] w fun e w' => e = .returned (.int .i64 12) ∧ w' = w := by
  have c4 := h.c4
  go_enter Try.func16, Try.ntmps16
  go_wp2
  go_ret
  exact ⟨rfl, rfl⟩

set_option maxRecDepth 4000 in
set_option maxHeartbeats 400000 in
theorem flush_stops (h : DiskAt w db pb mb n nn pl D ops left false) (hl : left = 1) :
    Calls Try.prog 16 #[.pointer (some ⟨db, 0, none⟩)] w fun e w' => e = .returned (.int .i64 12) ∧ DiskAt w' db pb mb n nn pl D ops 0 true ∧ Kept [db] w w' := by
  have c4 := h.c4
  have cb := begin_stops h hl
  clear hl
  go_enter Try.func16, Try.ntmps16
  go_wp2_with fail
  refine cb.mono ?_
  rintro e w' ⟨rfl, hD, hK⟩
  go_wp2
  go_ret
  exact ⟨rfl, hD, hK⟩

set_option maxRecDepth 4000 in
set_option maxHeartbeats 1000000 in
theorem flush_lays (h : DiskAt w db pb mb n nn pl D ops left false) (ops' left' : Int)
    (cb : Calls Try.prog 35 #[.pointer (some ⟨db, 0, none⟩)] w fun e w' => e = .returned (.bool true) ∧ DiskAt w' db pb mb n nn pl D ops' left' false ∧ Kept [db] w w') :
    Calls Try.prog 16 #[.pointer (some ⟨db, 0, none⟩)] w fun e w' => e = .returned (.int .i64 0) ∧
      DiskAt w' db pb mb n 0 (fun j : Nat => newestOf D pl j) (.map []) ops' left' false ∧ Kept [db, pb, mb] w w' := by
  have c4 := h.c4
  go_enter Try.func16, Try.ntmps16
  go_wp2_with fail
  refine cb.mono ?_
  rintro e w1 ⟨rfl, hD, hK⟩
  clear cb c4 h
  have c1 := hD.c1
  go_wp2_with (first
    | (at_range; refine wpList_range_own _ rfl _ 73 rfl 3 78 int_key Try.underlying73 secR mb nn D rfl hD.buf ?_; intro w0 hrg0 hg0 hs0)
    | fail)
  go_frame
  have hk0 : Kept [pb] w1 w0 := (Kept.refl _ w1).grown hg0 (fun k hk => by cases hk)
  have hd0 : DiskAt w0 db pb mb n nn pl D ops' left' false := hD.kept ((Kept.refl [] w1).grown hg0 (fun k hk => by cases hk)) (by simp) (by simp) (by simp)
  clear c1 hg0 hs0
  go_loopw [3] (fun _ wr => ∃ (lf : Lit → Bool) (cnt : Nat), wr.ranges Try.prog 3 secR mb w1.heap.size nn D lf cnt ∧ DiskAt wr db pb mb n nn (flushTo D lf pl) D ops' left' false ∧ Kept [pb] w1 wr)
    (fun _ wr => wr.rangeLeft mb w1.heap.size)
  case atStart => exact ⟨_, _, hrg0, by rw [flush_start]; exact hd0, hk0⟩
  case round =>
    obtain ⟨lf, cnt, hrg, hd, hkr⟩ := hrel
    clear hrg0 hk0 hd0
    go_wp2_with (first
      | (at_next; refine wpList_next_ranges _ rfl _ rfl 3 int_key secR (Value.int .i64) secOf (fun key kl hk => by obtain ⟨x, hx, _⟩ := Maps.keyOf_int_inv Try.underlying3 hk; exact ⟨x, hx⟩) (fun v y hv => by obtain ⟨l, hl, _⟩ := secR_inv hv; exact ⟨l, hl⟩) mb w1.heap.size nn D lf cnt rfl hrg ?_ ?_)
      | fail)
    · intro _ hl0
      obtain ⟨w2, hcl, hm2, hg2⟩ := clear_any hd.buf
      have c1 := hd.c1
      have hk2 : Kept [mb] wr w2 := (Kept.refl _ wr).grown hg2 (fun k hk => Or.inl (by cases hk; simp))
      have hfin : DiskAt w2 db pb mb n 0 (fun j : Nat => newestOf D pl j) (.map []) ops' left' false := by
        rw [← flush_end D lf pl hl0]
        exact hd.turn hk2 hm2 (empty_keys n)
      have hkf : Kept [db, pb, mb] w w2 := ((hK.mono (by simp)).trans (hkr.mono (by simp))).trans (hk2.mono (by simp))
      clear hm2 hg2 hk2 hrg hd hD hkr hK hl0
      go_wp2
      go_ret
      exact ⟨rfl, hfin, hkf⟩
    · intro x l kl yd yp w2 cnt2 hkey hlk hv hat hrg2 hlt hg2 hs2 hen
      obtain ⟨x', ex, rfl, hwx⟩ := Maps.keyOf_int_inv Try.underlying3 hkey
      cases ex
      obtain ⟨l', el, ey, hsl⟩ := secR_inv hv
      have ell := secOf_inj el
      subst ell
      simp only [Prod.mk.injEq] at ey
      have hat' : ∀ zd, D.atKey (.int .i64 x) zd = .held l := fun zd => by rw [hat zd]; exact ey.1
      obtain ⟨hx0, hx1⟩ := hd.keys x (Maps.has_true_of_atKey hat')
      have hdb := hD.dbl
      have hpb := hD.pbl
      have hmb := hD.mbl
      have hk2 : Kept [w1.heap.size] wr w2 := (Kept.refl _ wr).grown hg2 (fun k hk => Or.inl (by cases hk; simp))
      have d2 : DiskAt w2 db pb mb n nn (flushTo D lf pl) D ops' left' false := hd.kept hk2 (by simp; omega) (by simp; omega) (by simp; omega)
      have hk12 : Kept [pb] w1 w2 := hkr.grown hg2 (fun k hk => Or.inr (by cases hk; exact Nat.le_refl _))
      obtain ⟨W1, hW1⟩ : ∃ W1, w2.alloc (.cells (rowOf zeros) 78) = W1 := ⟨_, rfl⟩
      have t1 : W1.there w2.heap.size 0 128 := by rw [← hW1]; exact there_new w2 zeros zeros_sec.1 _
      obtain ⟨W2, hW2⟩ : ∃ W2, W1.setCells w2.heap.size 0 (cellsOf l) = W2 := ⟨_, rfl⟩
      have kn : Kept [] w2 W2 := by rw [← hW2]; exact Kept.setCells_new (Nat.le_refl _) _ _ (by rw [← hW1]; exact Kept.of_alloc _ _ _)
      have r2 : W2.rangeAt w2.heap.size 0 (cellsOf l) := by rw [← hW2]; exact World.rangeAt_setCells_same _ _ _ _ (by rw [cells_len, hsl.1]; exact t1)
      have dW : DiskAt W2.drew db pb mb n nn (flushTo D lf pl) D ops' left' false := (d2.kept kn (by simp) (by simp) (by simp)).drew
      obtain ⟨W3, hW3⟩ : ∃ W3, W2.drew.setCells pb (x.toNat * 128) (cellsOf l) = W3 := ⟨_, rfl⟩
      have k3 : Kept [pb] W2.drew W3 := by rw [← hW3]; exact Kept.setCells (by simp) _ _ (Kept.refl _ _)
      have tP := (dW.plat x.toNat (by omega)).2.2
      have hne : w2.heap.size ≠ pb := by have := d2.pbl; omega
      have r2' : W2.drew.rangeAt w2.heap.size 0 (cellsOf l) := r2
      have hS0 : W2.drew.cell? ⟨db, 0, none⟩ = some (.slice (some ⟨pb, 0, none⟩) n n) ∧ W2.drew.rangeAt w2.heap.size 0 (cellsOf l) ∧ W2.drew.there pb (x.toNat * 128) 128 := ⟨dW.c0, r2, tP⟩
      have hS3 : W3.cell? ⟨db, 0, none⟩ = some (.slice (some ⟨pb, 0, none⟩) n n) ∧ W3.rangeAt w2.heap.size 0 (cellsOf l) ∧ W3.there pb (x.toNat * 128) 128 :=
        ⟨(World.cell?_of_block (k3.block db dW.dbl (by simpa using dW.dp))).trans dW.c0, by rw [← hW3]; exact World.rangeAt_setCells_apart r2' _ _ _ (Or.inl hne), by rw [← hW3]; exact World.there_setCells tP _ _ _⟩
      have hS3' : (W2.drew.setCells pb (x.toNat * 128) (cellsOf l)).cell? ⟨db, 0, none⟩ = some (.slice (some ⟨pb, 0, none⟩) n n) ∧ (W2.drew.setCells pb (x.toNat * 128) (cellsOf l)).rangeAt w2.heap.size 0 (cellsOf l) ∧ (W2.drew.setCells pb (x.toNat * 128) (cellsOf l)).there pb (x.toNat * 128) 128 := by rw [hW3]; exact hS3
      have hk23 : Kept [pb] w2 W3 := (kn.mono (by simp)).drew.trans k3
      have hrg3 := hrg2.kept hk23.to_grown (by simpa using d2.pm.symm) (by simp; omega)
      have e128 : l.take 128 = l := List.take_of_length_le (by rw [hsl.1]; exact Nat.le_refl _)
      have hd3 : DiskAt W3 db pb mb n nn (flushTo D (fun z => lf z && !z.sameKey (.int .i64 x)) pl) D ops' left' false := by
        have hpl := dW.plat.front x.toNat 128 (by omega) (Nat.le_refl _) l hsl
        rw [e128, hW3] at hpl
        have hst := flush_step D lf pl x hx0 l hsl.1 hat' (fun j => by
          by_cases e : j = x.toNat
          · exact Or.inl (dW.plat j (by omega)).1.1
          · exact Or.inr e)
        rw [e128] at hst
        rw [← hst]
        exact dW.lay k3 hpl
      have hk13 : Kept [pb] w1 W3 := hk12.trans hk23
      have hml : W3.rangeLeft mb w1.heap.size < wr.rangeLeft mb w1.heap.size := by rw [hrg3.left_eq, hrg.left_eq]; exact hlt
      have hidx : ∀ w : World, (Instr.indexAt 72 (.slice (some ⟨pb, 0, none⟩) n n) (.int .i64 x)).run Try.prog w = .ok (.pointer (some ⟨pb, x.toNat * 128, none⟩)) w := fun w => plat_index w pb n x hx0 hx1
      have hu : Try.prog.underlying 78 = some (.array 128 5) := Try.underlying78
      have hi : (Try.prog.info? 78).map (·.size) = some (cellsOf l).length := by rw [size_sec, cells_len, hsl.1]
      have hcl : (cellsOf l).length = 128 := by rw [cells_len, hsl.1]
      have hon := cells_one l
      clear hs2 hg2 hrg2 hrg hd d2 dW hkr hk12 hk2 kn k3 hk23 tP hat hat' hv ey el hkey hlk hlt hD e128 hwx
      go_wp2_with (first
        | (refine wpList_alloc_to rfl rfl hW1 ?_)
        | (refine wpList_store_to rfl _ _ rfl _ _ rfl _ rfl hsl t1 hW2 ?_)
        | fail)
      clear hW1 t1 hW2 r2 r2'
      go_region_held3 (fun w' => w'.cell? ⟨db, 0, none⟩ = some (.slice (some ⟨pb, 0, none⟩) n n) ∧ w'.rangeAt w2.heap.size 0 (cellsOf l) ∧ w'.there pb (x.toNat * 128) 128) (first | exact hS0 | exact hS3 | exact hS3') (fail)
      go_wp2_with fail
      try go_frame
      go_roundw
      case rel => exact ⟨_, cnt2, by first | exact hrg3 | (rw [hW3]; exact hrg3), by first | exact hd3 | (rw [hW3]; exact hd3), by first | exact hk13 | (rw [hW3]; exact hk13)⟩
      case measure => first | exact hml | (rw [hW3]; exact hml)

set_option maxRecDepth 4000 in
set_option maxHeartbeats 400000 in
/-- Flush, where it is done. -/
theorem flush_any (h : DiskAt w db pb mb n nn pl D ops left false) (ho : 0 ≤ ops) (ho2 : ops < 1000000) (hl : left ≠ 1) (hl2 : left < 9223372036854775808) :
    Calls Try.prog 16 #[.pointer (some ⟨db, 0, none⟩)] w fun e w' => e = .returned (.int .i64 0) ∧
      DiskAt w' db pb mb n 0 (fun j : Nat => newestOf D pl j) (.map []) (ops + 1) (if 1 < left then left - 1 else left) false ∧ Kept [db, pb, mb] w w' := by
  by_cases hg : 1 < left
  · rw [if_pos hg]
    exact flush_lays h _ _ (begin_counts h hg ho ho2 hl2)
  · rw [if_neg hg]
    exact flush_lays h _ _ (begin_goes h (by omega) ho ho2)
end
end Go.Proofs.Ytgjnlocokkjejaa
