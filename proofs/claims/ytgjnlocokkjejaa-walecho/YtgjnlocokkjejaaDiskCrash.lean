/-
  THE CONTRACT OF (*Disk).Crash.
-/
import Derived.Test.YtgjnlocokkjejaaDiskTurn
import Derived.Test.YtgjnlocokkjejaaIter
namespace Go.Proofs.Ytgjnlocokkjejaa
open Go.RowKit Go.Maps

theorem merge_sorted (ss : List Int) : (ss.mergeSort (fun x y => decide (x ≤ y))).Pairwise (· ≤ ·) := by
  have := List.pairwise_mergeSort (le := fun (x y : Int) => decide (x ≤ y)) (fun a b c h1 h2 => by simp at *; omega) (fun a b => by simp; omega) ss
  exact this.imp (fun h => by simpa using h)

section
variable {w : World} {db pb mb n nn : Nat} {pl : Nat → List Int} {D : DataW (List Int)} {ops left : Int} {dead : Bool}

/-- The crash's tail: the buffer emptied, the stop taken back. -/
theorem crash_tail (h : DiskAt w db pb mb n nn pl D ops left dead) : ∃ w2, (Builtin.clear_ #[73] 0 #[.map (some mb)]).run Try.prog w = .ok (.tuple #[]) w2 ∧ DiskAt w2 db pb mb n 0 pl (.map []) ops left dead ∧ Kept [mb] w w2 := by
  obtain ⟨w2, hcl, hm2, hg2⟩ := clear_any h.buf
  have hk2 : Kept [mb] w w2 := (Kept.refl _ w).grown hg2 (fun k hk => Or.inl (by cases hk; simp))
  exact ⟨w2, hcl, h.turn hk2 hm2 (empty_keys n), hk2⟩

set_option maxRecDepth 4000 in
set_option maxHeartbeats 1000000 in
theorem crash_at (h : DiskAt w db pb mb n nn pl D ops left dead) (hnn : nn ≤ 1000000) (picks : List Int) (pa : Option Addr) (pc : Nat)
    (hp : picks = [] ∨ ∃ y, pa = some y ∧ ∀ j, j < picks.length → w.cell? (y.add j) = some (.int .i64 (picks.getD j 0)) ∧ (y.add j).block ≠ pb) :
    Calls Try.prog 20 #[.pointer (some ⟨db, 0, none⟩), .slice pa picks.length pc] w fun e w' => ∃ ks : List Int, ks.Perm (intKeys D) ∧ ks.Pairwise (· ≤ ·) ∧ e = .returned (.int .i64 (ks.length : Int)) ∧
      DiskAt w' db pb mb n 0 (crashTo D picks ks pl ks.length) (.map []) ops 0 false ∧ Kept [db, pb, mb] w w' := by
  have c1 := h.c1
  have cK := keys_call mb w
  have hsz : Maps.size D ≤ nn := h.buf.size_le
  have cS := sorted_call mb nn D secR w h.buf (by unfold maxLen; omega) (by omega)
  go_enter Try.func20, Try.ntmps20
  go_wp2_with fail
  refine cK.mono ?_
  rintro e w' ⟨rfl, rfl⟩
  go_wp2_with fail
  refine cS.mono ?_
  rintro e w1 ⟨v, ss, rfl, hperm, hrow, hnil, hbel⟩
  clear cK cS c1
  have hsrt0 := merge_sorted ss
  have hpk0 : (ss.mergeSort (fun x y => decide (x ≤ y))).Perm (intKeys D) := (List.mergeSort_perm ss _).trans hperm
  have hlen0 : (ss.mergeSort (fun x y => decide (x ≤ y))).length = ss.length := by simp
  generalize ss.mergeSort (fun x y => decide (x ≤ y)) = ks at hrow hsrt0 hpk0 hlen0
  rw [← hlen0] at hrow
  have hin : ∀ x ∈ ks, 0 ≤ x ∧ x < n := fun x hx => h.keys x (has_of_key h.buf (hpk0.mem_iff.1 hx))
  have hk1 : Kept [] w w1 := (Kept.of_alloc [] w _).below hbel
  have d1 : DiskAt w1 db pb mb n nn pl D ops left dead := h.kept hk1 (by simp) (by simp) (by simp)
  have hks : ks.length ≤ nn := by
    have := hpk0.length_eq
    obtain ⟨es, hes⟩ := h.buf.isMap
    subst hes
    simp only [intKeys, List.length_map] at this
    simp only [Maps.size] at hsz
    omega
  rcases hrow.2 with ⟨rfl, hz⟩ | ⟨g, cap, cur, rfl, hb, hg, h1, h2, h3, h4⟩
  · have ek : ks = [] := List.eq_nil_of_length_eq_zero (by omega)
    obtain ⟨w2, hcl, d2, hk2⟩ := crash_tail d1
    have c1 := d1.c1
    have c3 := d2.c3
    have f3 := d2.fz 3
    have c4 := (d2.set_left 0).c4
    have f4 := (d2.set_left 0).fz 4
    have hfin := (d2.set_left 0).set_dead false
    have hkf : Kept [db, pb, mb] w ((w2.setCell ⟨db, 3, none⟩ (.int .i64 0)).setCell ⟨db, 4, none⟩ (.bool false)) := (((hk1.mono (by simp)).trans (hk2.mono (by simp))).setCell (by simp) _).setCell (by simp) _
    clear hin hrow hbel hnil hperm hlen0 d2 hk2 h d1 hz
    go_wp2_with fail
    refine wp_loop_rounds 1 ?_
    rw [rounds_succ]
    go_wp2_with fail
    go_ret
    rw [ek] at hpk0 hsrt0
    exact ⟨[], hpk0, hsrt0, rfl, hfin, hkf⟩
  · have hgl : g < w1.heap.size := (Array.getElem?_eq_some_iff.1 hg).1
    have hgw : w.heap.size < g := by simp at hb; omega
    have hcell : ∀ i, i < ks.length → w1.cell? ⟨g, i, none⟩ = some (.int .i64 (ks.getD i 0)) := by
      intro i hi
      rw [cell_of_row w1 g i cur _ (0, 0) hg]
      have e1 : (cur.toList.take (ks.length * 1))[i]? = (ks.map (Value.int .i64))[i]? := by rw [h4]
      rw [List.getElem?_take_of_lt (by omega)] at e1
      simp only [Array.getElem?_toList] at e1
      rw [e1]
      simp [hi]
    clear hrow hbel hnil hperm h1 h2 h3 h4 hb hg hlen0
    go_wp2_with fail
    go_loopw [18] (fun t wr => ∃ i : Nat, i ≤ ks.length ∧ t = .int .i64 (i : Int) ∧ DiskAt wr db pb mb n nn (crashTo D picks ks pl i) D ops left dead ∧ Kept [pb] w1 wr)
      (fun t _ => ks.length - (Go.RowKit.intOf t).toNat)
    case atStart => exact ⟨0, Nat.zero_le _, rfl, d1, Kept.refl _ _⟩
    case round =>
      obtain ⟨i, hi, rfl, hd, hkr⟩ := hrel
      rcases Nat.lt_or_ge i ks.length with hlt | hge
      · by_cases hpi : i < picks.length
        · have hi' : (i : Int) < (ks.length : Int) := by omega
          have hdb := d1.dbl
          have hpb := d1.pbl
          have hmb := d1.mbl
          have cN : wr.cell? ⟨g, i, none⟩ = some (.int .i64 (ks.getD i 0)) := (World.cell?_of_block (a := ⟨g, i, none⟩) (hkr.block g hgl (by simp; have := h.pbl; omega))).trans (hcell i hlt)
          have hmem : ks.getD i 0 ∈ ks := by
            rw [show ks.getD i 0 = ks[i] by simp [hlt]]
            exact List.getElem_mem hlt
          obtain ⟨hx0, hx1⟩ := hin _ hmem
          have hcr : crashTo D picks ks pl (i + 1) = crashStep D (picks.getD i 0) (ks.getD i 0) (crashTo D picks ks pl i) := rfl
          clear hmem hin hcell
          generalize ks.getD i 0 = x at cN hx0 hx1 hcr
          obtain ⟨y, epa, hq⟩ : ∃ y, pa = some y ∧ ∀ j, j < picks.length → w.cell? (y.add j) = some (.int .i64 (picks.getD j 0)) ∧ (y.add j).block ≠ pb := by
            rcases hp with hp | hp
            · rw [hp] at hpi
              simp at hpi
            · exact hp
          subst epa
          obtain ⟨hq1, hqp⟩ := hq i hpi
          have hql := World.block_lt_of_cell? _ _ hq1
          have cP : wr.cell? (y.add i) = some (.int .i64 (picks.getD i 0)) := (World.cell?_of_block ((hkr.block _ (Nat.lt_of_lt_of_le hql hk1.size) (by simpa using hqp)).trans (hk1.block _ hql (by simp)))).trans hq1
          generalize picks.getD i 0 = p at cP hcr
          have hpi' : (i : Int) < (picks.length : Int) := by omega
          clear hp hpi hq hq1
          have hn := hd.nhi
          have hlk := hd.look1 x (by omega)
          have hsl := (hd.look x (by omega)).2
          have c1 := hd.c1
          have hf0 := frontOf_lo p
          have hf1 := frontOf_hi p
          obtain ⟨W1, hW1⟩ : ∃ W1, wr.alloc (.cells (rowOf zeros) 78) = W1 := ⟨_, rfl⟩
          have t1 : W1.there wr.heap.size 0 128 := by rw [← hW1]; exact there_new wr zeros zeros_sec.1 _
          obtain ⟨W2, hW2⟩ : ∃ W2, W1.setCells wr.heap.size 0 (cellsOf (bufAt D x)) = W2 := ⟨_, rfl⟩
          have kn : Kept [] wr W2 := by rw [← hW2]; exact Kept.setCells_new (Nat.le_refl _) _ _ (by rw [← hW1]; exact Kept.of_alloc _ _ _)
          have r2 : W2.rangeAt wr.heap.size 0 (cellsOf (bufAt D x)) := by rw [← hW2]; exact World.rangeAt_setCells_same _ _ _ _ (by rw [cells_len, hsl.1]; exact t1)
          have dW : DiskAt W2.drew db pb mb n nn (crashTo D picks ks pl i) D ops left dead := (hd.kept kn (by simp) (by simp) (by simp)).drew
          have tP := (dW.plat x.toNat (by omega)).2.2
          have hcp := copy_front W2.drew pb (x.toNat * 128) wr.heap.size (frontOf p).toNat (bufAt D x) hsl.1 (by omega) tP r2
          obtain ⟨W3, hW3⟩ : ∃ W3, W2.drew.setCells pb (x.toNat * 128) (cellsOf ((bufAt D x).take (frontOf p).toNat)) = W3 := ⟨_, rfl⟩
          have k3 : Kept [pb] W2.drew W3 := by rw [← hW3]; exact Kept.setCells (by simp) _ _ (Kept.refl _ _)
          have hpl3 := dW.plat.front x.toNat (frontOf p).toNat (by omega) (by omega) (bufAt D x) hsl
          rw [hW3] at hpl3 hcp
          have hd3 : DiskAt W3 db pb mb n nn (crashTo D picks ks pl (i + 1)) D ops left dead := by rw [hcr]; exact dW.lay k3 hpl3
          have hk13 : Kept [pb] w1 W3 := (hkr.trans ((kn.mono (by simp)).drew)).trans k3
          have hS0 : W2.drew.cell? ⟨db, 0, none⟩ = some (.slice (some ⟨pb, 0, none⟩) n n) := dW.c0
          have hS3 : W3.cell? ⟨db, 0, none⟩ = some (.slice (some ⟨pb, 0, none⟩) n n) := hd3.c0
          have hidx : ∀ w : World, (Instr.indexAt 72 (.slice (some ⟨pb, 0, none⟩) n n) (.int .i64 x)).run Try.prog w = .ok (.pointer (some ⟨pb, x.toNat * 128, none⟩)) w := fun w => plat_index w pb n x hx0 hx1
          have hsc := sec_slice
          have hfr : ∀ w : World, (Instr.sliceAt 78 (.pointer (some ⟨pb, x.toNat * 128, none⟩)) none (some (.int .i64 (frontOf p))) none).run Try.prog w = .ok (.slice (some ⟨pb, x.toNat * 128, none⟩) (frontOf p).toNat 128) w := fun w => sec_front pb (x.toNat * 128) (frontOf p) hf0 hf1 w
          clear hcr h hd dW hkr kn k3 tP hpl3 d1 r2
          go_wp2_with (first
            | (refine wpList_alloc_to rfl rfl hW1 ?_)
            | (refine wpList_store_to rfl _ _ rfl _ _ rfl _ rfl hsl t1 hW2 ?_)
            | fail)
          clear hW1 t1 hW2
          go_region_held3 (fun w' => w'.cell? ⟨db, 0, none⟩ = some (.slice (some ⟨pb, 0, none⟩) n n)) (first | exact hS0 | exact hS3) (first | (go_at_call 41; refine (front_any _ _).mono ?_; rintro e w' ⟨rfl, rfl⟩) | fail)
          go_wp2_with fail
          go_roundw
          case rel => exact ⟨i + 1, by omega, by go_num, hd3, hk13⟩
          case measure => simp [Go.RowKit.intOf]; omega
        · have hi' : (i : Int) < (ks.length : Int) := by omega
          have hdb := d1.dbl
          have hpb := d1.pbl
          have hmb := d1.mbl
          have cN : wr.cell? ⟨g, i, none⟩ = some (.int .i64 (ks.getD i 0)) := (World.cell?_of_block (a := ⟨g, i, none⟩) (hkr.block g hgl (by simp; have := h.pbl; omega))).trans (hcell i hlt)
          have hmem : ks.getD i 0 ∈ ks := by
            rw [show ks.getD i 0 = ks[i] by simp [hlt]]
            exact List.getElem_mem hlt
          obtain ⟨hx0, hx1⟩ := hin _ hmem
          have hcr : crashTo D picks ks pl (i + 1) = crashStep D (picks.getD i 0) (ks.getD i 0) (crashTo D picks ks pl i) := rfl
          clear hmem hin hcell
          generalize ks.getD i 0 = x at cN hx0 hx1 hcr
          have hcr' : crashTo D picks ks pl (i + 1) = crashStep D 0 x (crashTo D picks ks pl i) := by rw [hcr]; simp [hpi]
          clear hcr
          have hcr := hcr'
          have hpi' : ¬ (i : Int) < (picks.length : Int) := by omega
          clear hp hpi hcr'
          have hn := hd.nhi
          have hlk := hd.look1 x (by omega)
          have hsl := (hd.look x (by omega)).2
          have c1 := hd.c1
          have hf0 := frontOf_lo 0
          have hf1 := frontOf_hi 0
          obtain ⟨W1, hW1⟩ : ∃ W1, wr.alloc (.cells (rowOf zeros) 78) = W1 := ⟨_, rfl⟩
          have t1 : W1.there wr.heap.size 0 128 := by rw [← hW1]; exact there_new wr zeros zeros_sec.1 _
          obtain ⟨W2, hW2⟩ : ∃ W2, W1.setCells wr.heap.size 0 (cellsOf (bufAt D x)) = W2 := ⟨_, rfl⟩
          have kn : Kept [] wr W2 := by rw [← hW2]; exact Kept.setCells_new (Nat.le_refl _) _ _ (by rw [← hW1]; exact Kept.of_alloc _ _ _)
          have r2 : W2.rangeAt wr.heap.size 0 (cellsOf (bufAt D x)) := by rw [← hW2]; exact World.rangeAt_setCells_same _ _ _ _ (by rw [cells_len, hsl.1]; exact t1)
          have dW : DiskAt W2.drew db pb mb n nn (crashTo D picks ks pl i) D ops left dead := (hd.kept kn (by simp) (by simp) (by simp)).drew
          have tP := (dW.plat x.toNat (by omega)).2.2
          have hcp := copy_front W2.drew pb (x.toNat * 128) wr.heap.size (frontOf 0).toNat (bufAt D x) hsl.1 (by omega) tP r2
          obtain ⟨W3, hW3⟩ : ∃ W3, W2.drew.setCells pb (x.toNat * 128) (cellsOf ((bufAt D x).take (frontOf 0).toNat)) = W3 := ⟨_, rfl⟩
          have k3 : Kept [pb] W2.drew W3 := by rw [← hW3]; exact Kept.setCells (by simp) _ _ (Kept.refl _ _)
          have hpl3 := dW.plat.front x.toNat (frontOf 0).toNat (by omega) (by omega) (bufAt D x) hsl
          rw [hW3] at hpl3 hcp
          have hd3 : DiskAt W3 db pb mb n nn (crashTo D picks ks pl (i + 1)) D ops left dead := by rw [hcr]; exact dW.lay k3 hpl3
          have hk13 : Kept [pb] w1 W3 := (hkr.trans ((kn.mono (by simp)).drew)).trans k3
          have hS0 : W2.drew.cell? ⟨db, 0, none⟩ = some (.slice (some ⟨pb, 0, none⟩) n n) := dW.c0
          have hS3 : W3.cell? ⟨db, 0, none⟩ = some (.slice (some ⟨pb, 0, none⟩) n n) := hd3.c0
          have hidx : ∀ w : World, (Instr.indexAt 72 (.slice (some ⟨pb, 0, none⟩) n n) (.int .i64 x)).run Try.prog w = .ok (.pointer (some ⟨pb, x.toNat * 128, none⟩)) w := fun w => plat_index w pb n x hx0 hx1
          have hsc := sec_slice
          have hfr : ∀ w : World, (Instr.sliceAt 78 (.pointer (some ⟨pb, x.toNat * 128, none⟩)) none (some (.int .i64 (frontOf 0))) none).run Try.prog w = .ok (.slice (some ⟨pb, x.toNat * 128, none⟩) (frontOf 0).toNat 128) w := fun w => sec_front pb (x.toNat * 128) (frontOf 0) hf0 hf1 w
          clear hcr h hd dW hkr kn k3 tP hpl3 d1 r2
          go_wp2_with (first
            | (refine wpList_alloc_to rfl rfl hW1 ?_)
            | (refine wpList_store_to rfl _ _ rfl _ _ rfl _ rfl hsl t1 hW2 ?_)
            | fail)
          clear hW1 t1 hW2
          go_region_held3 (fun w' => w'.cell? ⟨db, 0, none⟩ = some (.slice (some ⟨pb, 0, none⟩) n n)) (first | exact hS0 | exact hS3) (first | (go_at_call 41; refine (front_any _ _).mono ?_; rintro e w' ⟨rfl, rfl⟩) | fail)
          go_wp2_with fail
          go_roundw
          case rel => exact ⟨i + 1, by omega, by go_num, hd3, hk13⟩
          case measure => simp [Go.RowKit.intOf]; omega
      · have ei : i = ks.length := by omega
        obtain ⟨w2, hcl, d2, hk2⟩ := crash_tail hd
        have c1 := hd.c1
        have c3 := d2.c3
        have f3 := d2.fz 3
        have c4 := (d2.set_left 0).c4
        have f4 := (d2.set_left 0).fz 4
        have hfin := (d2.set_left 0).set_dead false
        have hkf : Kept [db, pb, mb] w ((w2.setCell ⟨db, 3, none⟩ (.int .i64 0)).setCell ⟨db, 4, none⟩ (.bool false)) := ((((hk1.mono (by simp)).trans (hkr.mono (by simp))).trans (hk2.mono (by simp))).setCell (by simp) _).setCell (by simp) _
        rw [ei] at hfin
        have hge' : ¬ (i : Int) < (ks.length : Int) := by omega
        clear hin d2 hk2 h d1 hd hcell ei
        go_wp2_with fail
        go_ret
        exact ⟨ks, hpk0, hsrt0, rfl, hfin, hkf⟩
theorem crash_any (h : DiskAt w db pb mb n nn pl D ops left dead) (hnn : nn ≤ 1000000) (picks : List Int) (pa : Option Addr) (pc : Nat)
    (hp : picks = [] ∨ ∃ qb qo, pa = some ⟨qb, qo, none⟩ ∧ w.rangeAt qb qo (picks.map (Value.int .i64)) ∧ qb ≠ pb ∧ qb < w.heap.size) :
    Calls Try.prog 20 #[.pointer (some ⟨db, 0, none⟩), .slice pa picks.length pc] w fun e w' => ∃ ks : List Int, ks.Perm (intKeys D) ∧ ks.Pairwise (· ≤ ·) ∧ e = .returned (.int .i64 (ks.length : Int)) ∧
      DiskAt w' db pb mb n 0 (crashTo D picks ks pl ks.length) (.map []) ops 0 false ∧ Kept [db, pb, mb] w w' :=
  crash_at h hnn picks pa pc (hp.imp id fun ⟨qb, qo, e, hr, h1, h2⟩ => ⟨⟨qb, qo, none⟩, e, fun j hj => ⟨by
    rw [Addr.add_mid]
    refine hr j _ ?_
    simp [hj], by rw [Addr.add_mid]; exact h1⟩⟩)
end
end Go.Proofs.Ytgjnlocokkjejaa
