/-
  P1103, P1104: of any config the first nodes are the document's: a tree, a directory for each label that a terminal has: the law's walk. Written by mk_tfirstw.py.
-/
import Derived.Test.YtacjfbomjglnjaaDoorPt6
namespace Go.Proofs.YtacjfbomjglnjaaDoor
open Go.RowKit
set_option maxRecDepth 8000
set_option linter.unusedSimpArgs false
set_option linter.unusedVariables false

def cntT (D : List Lab) (t : Lab) (k : Nat) : Nat := ((D.take k).filter fun u => labEq u t).length
theorem cnt_succ {D : List Lab} {t u : Lab} {k : Nat} (h : D[k]? = some u) : cntT D t (k + 1) = cntT D t k + (if labEq u t = true then 1 else 0) := by
  unfold cntT
  rw [List.take_add_one, h, List.filter_append, List.length_append]
  congr 1
  simp only [Option.toList, List.filter_cons, List.filter_nil]
  split <;> rfl
theorem cnt_le (D : List Lab) (t : Lab) (k : Nat) : cntT D t k ≤ D.length := by
  unfold cntT
  exact Nat.le_trans (List.length_filter_le _ _) (by rw [List.length_take]; omega)
theorem cnt_one : ∀ {D : List Lab} {t : Lab}, D.Nodup → t ∈ D → (D.filter fun u => labEq u t).length = 1
  | [], _, _, h => by cases h
  | x :: r, t, hd, h => by
    obtain ⟨h1, h2⟩ := List.nodup_cons.1 hd
    rw [List.filter_cons]
    by_cases hx : x = t
    · subst hx
      rw [if_pos ((labEq_iff _ _).2 rfl), List.length_cons]
      have : r.filter (fun u => labEq u x) = [] := List.filter_eq_nil_iff.2 fun u hu q => h1 (by rw [← (labEq_iff _ _).1 q]; exact hu)
      rw [this]
      rfl
    · rw [if_neg (fun q => hx ((labEq_iff _ _).1 q))]
      rcases List.mem_cons.1 h with rfl | h
      · exact absurd rfl hx
      · exact cnt_one h2 h
theorem first_get {L : List Lab} {l : List PN} (h : namesP l = firstN L) {k : Nat} {x : PN} (hx : l[k + 1]? = some x) : ∃ u, (distTo L L.length)[k]? = some u ∧ x.n.label = u ∧ x.n.dir = true := by
  have h1 := names_at hx
  rw [h] at h1
  unfold firstN firstTo at h1
  rw [List.getElem?_cons_succ, List.getElem?_mapIdx] at h1
  cases hd : (distTo L L.length)[k]? with
  | none => rw [hd] at h1; cases h1
  | some u =>
    rw [hd] at h1
    have := Option.some.inj h1
    exact ⟨u, rfl, by rw [← this]; rfl, by rw [← this]; rfl⟩
theorem first_len {L : List Lab} {l : List PN} (h : namesP l = firstN L) : l.length = (distTo L L.length).length + 1 := by
  have := congrArg List.length h
  simpa [namesP, firstN, firstTo] using this
theorem fine_fits {l : List PN} (h : Fine l) : Fits l := fun x hx => by
  have := h.few x hx
  exact ⟨Nat.le_trans this.1 (by decide), Nat.le_trans this.2 (by decide)⟩
theorem labs_load (w : World) (y : Addr) (v : Value) (h : w.cell? y = some v) : (Instr.loadAt 23 (.pointer (some y))).run Tryd.prog w = .ok v w := by
  have h1 := Tryd.underlying23
  go_simp
set_option maxRecDepth 20000 in
set_option maxHeartbeats 8000000 in
theorem treeFirst_walk (ta : Option Addr) (ct : Nat) (ts : List Lab) (w00 : World) (hlr0 : RowAt 4 lrow w00 ta ts) (hM0 : MaxV w00) :
    Calls Tryd.prog 5 #[.slice ta ts.length ct] w00 fun e w' => e = .returned (.bool true) ∧ Below w00.heap.size w00 w' := by
  have hsl : (Tryd.prog.info? 26).map (·.size) = some 4 := by kernel_rfl
  have hcf : (Tryd.prog.info? 58).map (·.size) = some 3 := by kernel_rfl
  obtain ⟨n, hn⟩ : ∃ n, ts.length = n := ⟨_, rfl⟩
  rw [hn]
  replace hn : Aside (ts.length = n) := hn
  go_enter Tryd.func5, Tryd.ntmps5
  go_wp2_with fail
  refine (tknown_any w00).mono ?_
  rintro e w ⟨rfl, hB00⟩
  have hlr := hlr0.below lab_ok.len hB00
  have hM := hM0.below hB00
  clear hlr0 hM0
  have hb0 := blk_alloc w #[.slice none 0 0, .slice none 0 0, .slice none 0 0] 58
  have hB0 := alloc_below w (.cells #[.slice none 0 0, .slice none 0 0, .slice none 0 0] 58)
  have hz0 := World.size_alloc w (.cells #[.slice none 0 0, .slice none 0 0, .slice none 0 0] 58)
  go_upto_block 0 with fail
  generalize w.alloc (.cells #[.slice none 0 0, .slice none 0 0, .slice none 0 0] 58) = W0 at *
  go_cut [4] from 9 (fun s4 wc => ∃ v, OwnR 26 4 lrow wc (w.heap.size + 1) v ((ts.take 8).map goodL) ∧ Blk wc w.heap.size [v, .slice none 0 0, .slice none 0 0] ∧ Below w.heap.size w wc ∧ w.heap.size + 1 ≤ wc.heap.size)
  case first =>
    go_wp2_with fail
    go_loopw [4] (fun t6 wr => ∃ i : Nat, i ≤ n ∧ i ≤ 8 ∧ t6 = .int .i64 (i : Int) ∧ ∃ v, OwnR 26 4 lrow wr (w.heap.size + 1) v ((ts.take i).map goodL) ∧ Blk wr w.heap.size [v, .slice none 0 0, .slice none 0 0] ∧ Below w.heap.size w wr ∧ w.heap.size + 1 ≤ wr.heap.size) (fun t6 _ => n - (Go.RowKit.intOf t6).toNat)
    case atStart => exact ⟨0, by omega, by omega, rfl, .slice none 0 0, OwnR.nil _ _ _ _ _, hb0, hB0, by omega⟩
    case round =>
      clear hb0 hB0 hz0
      obtain ⟨i, hi, hi4, rfl, v, ho, hk, hB, hz⟩ := hrel
      by_cases hlt : i < n ∧ i < 8
      · obtain ⟨tt, hti⟩ : ∃ tt, ts[i]? = some tt := ⟨_, List.getElem?_eq_getElem (by rw [hn.out]; exact hlt.1)⟩
        obtain ⟨ya, rfl, -⟩ := hlr i tt hti
        have hmap : (ts.take (i + 1)).map goodL = (ts.take i).map goodL ++ [goodL tt] := by rw [List.take_add_one, hti]; simp
        have hlL : ((ts.take i).map goodL).length ≤ 8 := by simp; omega
        generalize (ts.take i).map goodL = L at *
        have hS0 : CellsAt wr.drew (ya.add (i * 4)) [.int .i64 tt.s, .int .i64 tt.c, .int .i64 tt.i, .int .i64 tt.k] := (hlr.below lab_ok.len hB).at lab_ok.len hti
        have hk0 : Blk wr.drew w.heap.size [v, .slice none 0 0, .slice none 0 0] := hk
        have ho0 : OwnR 26 4 lrow wr.drew (w.heap.size + 1) v L := ho
        have hz0 : w.heap.size + 1 ≤ wr.drew.heap.size := hz
        have hB0 : Below w.heap.size w wr.drew := hB.drew
        have i1 : (i : Int) < (n : Int) := by omega
        have i2 : (i : Int) < 8 := by omega
        obtain ⟨va, vc, hvv, -, -, -⟩ := OwnR.slice lab_ok.len ho
        subst hvv
        clear ho hk hB hz
        go_wp2_with fail
        refine wp_region_held_drew (S := (fun W => CellsAt W (ya.add (i * 4)) [.int .i64 tt.s, .int .i64 tt.c, .int .i64 tt.i, .int .i64 tt.k])) (by kernel_rfl) (by exact hS0) ?_
        intro hHeld
        generalize wr.drew = w0 at *
        refine wpAnyH_take (i := 0) (v := ?_) (by simp only [gA, gB, gC]; rfl) (by kernel_rfl) (by kernel_rfl) (by kernel_rfl) (by exact fun _ _ _ h => h) (Or.inl ⟨by rfl, ?_⟩) (by assumption) ?_; rotate_left; (focus (intro w hSw; (try dsimp only at hSw); go_simp; try with_reducible rfl)); (try simp only [Act.put, sA, sB, sC])
        refine wpAnyH_take (i := 2) (v := ?_) (by simp only [gA, gB, gC]; rfl) (by kernel_rfl) (by kernel_rfl) (by kernel_rfl) (by exact fun _ _ _ h => h) (Or.inl ⟨by rfl, ?_⟩) (by assumption) ?_; rotate_left; (focus (intro w hSw; (try dsimp only at hSw); go_simp; try with_reducible rfl)); (try simp only [Act.put, sA, sB, sC])
        refine wpAnyH_take (i := 3) (v := ?_) (by simp only [gA, gB, gC]; rfl) (by kernel_rfl) (by kernel_rfl) (by kernel_rfl) (by exact fun _ _ _ h => h) (Or.inl ⟨by rfl, ?_⟩) (by assumption) ?_; rotate_left; (focus (intro w hSw; (try dsimp only at hSw); go_simp; try with_reducible rfl)); (try simp only [Act.put, sA, sB, sC])
        refine wpAnyH_take (i := 4) (v := ?_) (by simp only [gA, gB, gC]; rfl) (by kernel_rfl) (by kernel_rfl) (by kernel_rfl) (by exact fun _ _ _ h => h) (Or.inl ⟨by rfl, ?_⟩) (by assumption) ?_; rotate_left; (focus (intro w hSw; (try dsimp only at hSw); go_simp; try with_reducible rfl)); (try simp only [Act.put, sA, sB, sC])
        refine wpAnyH_take (i := 5) (v := _) (by simp only [gA, gB, gC]; rfl) (by kernel_rfl) (by kernel_rfl) (by kernel_rfl) (by exact fun _ _ _ h => h) (yields_at (by rfl) _ rfl _ rfl [.int .i64 tt.s, .int .i64 tt.c, .int .i64 tt.i, .int .i64 tt.k] (fun _ q => q) Tryd.underlying26 rfl hsl) (by assumption) ?_; (try simp only [Act.put, sA, sB, sC])
        refine wpAnyH_ready (rs := [1, 6]) (by kernel_rfl) (by simp) ?_
        refine AllReadyH.cons (by simp only [gA, gB, gC]; rfl) (fun K hK => ?_) ?_
        · skip
          have hcf := (hk0 0 _ rfl).1
          go_simp
          refine hK.out _ _ (hS0) ?_
          clear hHeld hK
          intro hHeld
          obtain ⟨w1, hww⟩ : ∃ w', w' = w0 := ⟨_, rfl⟩
          subst hww
          have hS1 := hS0
          have hk1 := hk0
          have hz1 := hz0
          have ho1 := ho0
          have hB1 := hB0
          (try simp only [Act.put, sA, sB, sC])
          refine wpAnyH_ready (rs := [6]) (by kernel_rfl) (by simp) ?_
          refine AllReadyH.cons (by simp only [gA, gB, gC]; rfl) (fun K hK => ?_) AllReadyH.nil
          go_simp
          go_at_call 15
          refine (good_any tt _).mono ?_
          rintro e w2 ⟨rfl, hb⟩
          have hS2 := hS1.below hb
          have hk2 := hk1.same (hb.block _ (by omega))
          have hz2 := Nat.le_trans hz1 hb.size
          have ho2 := ho1.below hb
          have hB2 := Below.then hB1 hb
          refine hK.out _ _ (hS2) ?_
          clear hHeld hK
          intro hHeld
          (try simp only [Act.put, sA, sB, sC])
          refine wpAnyH_ready (rs := [7]) (by kernel_rfl) (by simp) ?_
          refine AllReadyH.cons (by simp only [gA, gB, gC]; rfl) (fun K hK => ?_) AllReadyH.nil
          refine step_build1 lab_ok (by decide) rfl _ rfl [.int .i64 (goodL tt).s, .int .i64 (goodL tt).c, .int .i64 (goodL tt).i, .int .i64 (goodL tt).k] rfl rfl ?_
          (try simp only [Act.put, sA, sB, sC])
          refine hK.out _ _ (hS2.below (alloc_below _ _)) ?_
          clear hHeld hK
          intro hHeld
          obtain ⟨vz, wz, hap, hoz, hgz⟩ := OwnR.push lab_ok ho2 hz2 (goodL tt) [.int .i64 (goodL tt).s, .int .i64 (goodL tt).c, .int .i64 (goodL tt).i, .int .i64 (goodL tt).k].toArray rfl 26 (by omega)
          have hbz := ho2.grew_below hz2 hgz
          have hkz := hk2.same (hbz.block _ (by omega))
          have hzz := Nat.le_trans hz2 hbz.size
          have hBz := hB2.trans (hbz.mono (by omega))
          have hSz : CellsAt wz (ya.add (i * 4)) [.int .i64 tt.s, .int .i64 tt.c, .int .i64 tt.i, .int .i64 tt.k] := (hlr.below lab_ok.len hBz).at lab_ok.len hti
          have hS3 := hS2.below (alloc_below w2 (.cells [.int .i64 (goodL tt).s, .int .i64 (goodL tt).c, .int .i64 (goodL tt).i, .int .i64 (goodL tt).k].toArray 26))
          have hk3 := hk2.same ((alloc_below w2 (.cells [.int .i64 (goodL tt).s, .int .i64 (goodL tt).c, .int .i64 (goodL tt).i, .int .i64 (goodL tt).k].toArray 26)).block _ (by omega))
          have hz3 := Nat.le_trans hz2 (alloc_below w2 (.cells [.int .i64 (goodL tt).s, .int .i64 (goodL tt).c, .int .i64 (goodL tt).i, .int .i64 (goodL tt).k].toArray 26)).size
          have ho3 := ho2
          have hB3 := hB2
          obtain ⟨w3, hww⟩ : ∃ w', w2.alloc (.cells [.int .i64 (goodL tt).s, .int .i64 (goodL tt).c, .int .i64 (goodL tt).i, .int .i64 (goodL tt).k].toArray 26) = w' := ⟨_, rfl⟩
          rw [hww] at hS3 hk3 hz3 hap hHeld ⊢
          clear hww
          (try simp only [Act.put, sA, sB, sC])
          refine wpAnyH_ready (rs := [8]) (by kernel_rfl) (by simp) ?_
          refine AllReadyH.cons (by simp only [gA, gB, gC]; rfl) (fun K hK => ?_) AllReadyH.nil
          refine step_append rfl _ _ rfl rfl rfl rfl hap ?_
          (try simp only [Act.put, sA, sB, sC])
          refine hK.out _ _ (hSz) ?_
          clear hHeld hK
          intro hHeld
          have hcz := hkz 0 _ rfl
          have hk2 := hkz.set 0 vz (by simp)
          have hoz2 := hoz.set (g := w.heap.size) (j := 0) (u := vz) (fun q => by have := (hoz.lt q).1; omega)
          have hB2 : Below w.heap.size w (wz.setCell ⟨w.heap.size, 0, none⟩ vz) := hBz.setCell (p := ⟨w.heap.size, 0, none⟩) (Nat.le_refl _) _
          have hz2 : w.heap.size + 1 ≤ (wz.setCell ⟨w.heap.size, 0, none⟩ vz).heap.size := by simpa using hzz
          have hS2 : CellsAt (wz.setCell ⟨w.heap.size, 0, none⟩ vz) (ya.add (i * 4)) [.int .i64 tt.s, .int .i64 tt.c, .int .i64 tt.i, .int .i64 tt.k] := (hlr.below lab_ok.len hB2).at lab_ok.len hti
          obtain ⟨av, cv, hvv, -, -, -⟩ := OwnR.slice lab_ok.len hoz
          generalize (L ++ [goodL tt]).length = lz at hvv
          subst hvv
          (try simp only [Act.put, sA, sB, sC])
          refine wpAnyH_take (i := 9) (v := ?_) (by simp only [gA, gB, gC]; rfl) (by kernel_rfl) (by kernel_rfl) (by kernel_rfl) (by exact fun _ _ _ h => h) (Or.inl ⟨by rfl, ?_⟩) (by assumption) ?_; rotate_left; (focus (intro w hSw; (try dsimp only at hSw); go_simp; try with_reducible rfl)); (try simp only [Act.put, sA, sB, sC])
          refine wpAnyH_ready (rs := [10]) (by kernel_rfl) (by simp) ?_
          refine AllReadyH.cons (by simp only [gA, gB, gC]; rfl) (fun K hK => ?_) AllReadyH.nil
          go_simp
          refine hK.out _ _ (hS2) ?_
          clear hHeld hK
          intro hHeld
          (try simp only [Act.put, sA, sB, sC])
          refine wpAnyH_done (by kernel_rfl) ?_ _
          go_wp2_with fail
          exact ⟨⟨i + 1, by omega, by omega, by simp, _, by rw [hmap]; exact hoz2, hk2, hB2, hz2⟩, by simp [Go.RowKit.intOf]; omega⟩
        refine AllReadyH.cons (by simp only [gA, gB, gC]; rfl) (fun K hK => ?_) AllReadyH.nil
        go_simp
        go_at_call 15
        refine (good_any tt _).mono ?_
        rintro e w1 ⟨rfl, hb⟩
        have hS1 := hS0.below hb
        have hk1 := hk0.same (hb.block _ (by omega))
        have hz1 := Nat.le_trans hz0 hb.size
        have ho1 := ho0.below hb
        have hB1 := Below.then hB0 hb
        refine hK.out _ _ (hS1) ?_
        clear hHeld hK
        intro hHeld
        (try simp only [Act.put, sA, sB, sC])
        refine wpAnyH_ready (rs := [1, 7]) (by kernel_rfl) (by simp) ?_
        refine AllReadyH.cons (by simp only [gA, gB, gC]; rfl) (fun K hK => ?_) ?_
        · skip
          have hcf := (hk1 0 _ rfl).1
          go_simp
          refine hK.out _ _ (hS1) ?_
          clear hHeld hK
          intro hHeld
          obtain ⟨w2, hww⟩ : ∃ w', w' = w1 := ⟨_, rfl⟩
          subst hww
          have hS2 := hS1
          have hk2 := hk1
          have hz2 := hz1
          have ho2 := ho1
          have hB2 := hB1
          (try simp only [Act.put, sA, sB, sC])
          refine wpAnyH_ready (rs := [7]) (by kernel_rfl) (by simp) ?_
          refine AllReadyH.cons (by simp only [gA, gB, gC]; rfl) (fun K hK => ?_) AllReadyH.nil
          refine step_build1 lab_ok (by decide) rfl _ rfl [.int .i64 (goodL tt).s, .int .i64 (goodL tt).c, .int .i64 (goodL tt).i, .int .i64 (goodL tt).k] rfl rfl ?_
          (try simp only [Act.put, sA, sB, sC])
          refine hK.out _ _ (hS2.below (alloc_below _ _)) ?_
          clear hHeld hK
          intro hHeld
          obtain ⟨vz, wz, hap, hoz, hgz⟩ := OwnR.push lab_ok ho2 hz2 (goodL tt) [.int .i64 (goodL tt).s, .int .i64 (goodL tt).c, .int .i64 (goodL tt).i, .int .i64 (goodL tt).k].toArray rfl 26 (by omega)
          have hbz := ho2.grew_below hz2 hgz
          have hkz := hk2.same (hbz.block _ (by omega))
          have hzz := Nat.le_trans hz2 hbz.size
          have hBz := hB2.trans (hbz.mono (by omega))
          have hSz : CellsAt wz (ya.add (i * 4)) [.int .i64 tt.s, .int .i64 tt.c, .int .i64 tt.i, .int .i64 tt.k] := (hlr.below lab_ok.len hBz).at lab_ok.len hti
          have hS3 := hS2.below (alloc_below w2 (.cells [.int .i64 (goodL tt).s, .int .i64 (goodL tt).c, .int .i64 (goodL tt).i, .int .i64 (goodL tt).k].toArray 26))
          have hk3 := hk2.same ((alloc_below w2 (.cells [.int .i64 (goodL tt).s, .int .i64 (goodL tt).c, .int .i64 (goodL tt).i, .int .i64 (goodL tt).k].toArray 26)).block _ (by omega))
          have hz3 := Nat.le_trans hz2 (alloc_below w2 (.cells [.int .i64 (goodL tt).s, .int .i64 (goodL tt).c, .int .i64 (goodL tt).i, .int .i64 (goodL tt).k].toArray 26)).size
          have ho3 := ho2
          have hB3 := hB2
          obtain ⟨w3, hww⟩ : ∃ w', w2.alloc (.cells [.int .i64 (goodL tt).s, .int .i64 (goodL tt).c, .int .i64 (goodL tt).i, .int .i64 (goodL tt).k].toArray 26) = w' := ⟨_, rfl⟩
          rw [hww] at hS3 hk3 hz3 hap hHeld ⊢
          clear hww
          (try simp only [Act.put, sA, sB, sC])
          refine wpAnyH_ready (rs := [8]) (by kernel_rfl) (by simp) ?_
          refine AllReadyH.cons (by simp only [gA, gB, gC]; rfl) (fun K hK => ?_) AllReadyH.nil
          refine step_append rfl _ _ rfl rfl rfl rfl hap ?_
          (try simp only [Act.put, sA, sB, sC])
          refine hK.out _ _ (hSz) ?_
          clear hHeld hK
          intro hHeld
          have hcz := hkz 0 _ rfl
          have hk2 := hkz.set 0 vz (by simp)
          have hoz2 := hoz.set (g := w.heap.size) (j := 0) (u := vz) (fun q => by have := (hoz.lt q).1; omega)
          have hB2 : Below w.heap.size w (wz.setCell ⟨w.heap.size, 0, none⟩ vz) := hBz.setCell (p := ⟨w.heap.size, 0, none⟩) (Nat.le_refl _) _
          have hz2 : w.heap.size + 1 ≤ (wz.setCell ⟨w.heap.size, 0, none⟩ vz).heap.size := by simpa using hzz
          have hS2 : CellsAt (wz.setCell ⟨w.heap.size, 0, none⟩ vz) (ya.add (i * 4)) [.int .i64 tt.s, .int .i64 tt.c, .int .i64 tt.i, .int .i64 tt.k] := (hlr.below lab_ok.len hB2).at lab_ok.len hti
          obtain ⟨av, cv, hvv, -, -, -⟩ := OwnR.slice lab_ok.len hoz
          generalize (L ++ [goodL tt]).length = lz at hvv
          subst hvv
          (try simp only [Act.put, sA, sB, sC])
          refine wpAnyH_take (i := 9) (v := ?_) (by simp only [gA, gB, gC]; rfl) (by kernel_rfl) (by kernel_rfl) (by kernel_rfl) (by exact fun _ _ _ h => h) (Or.inl ⟨by rfl, ?_⟩) (by assumption) ?_; rotate_left; (focus (intro w hSw; (try dsimp only at hSw); go_simp; try with_reducible rfl)); (try simp only [Act.put, sA, sB, sC])
          refine wpAnyH_ready (rs := [10]) (by kernel_rfl) (by simp) ?_
          refine AllReadyH.cons (by simp only [gA, gB, gC]; rfl) (fun K hK => ?_) AllReadyH.nil
          go_simp
          refine hK.out _ _ (hS2) ?_
          clear hHeld hK
          intro hHeld
          (try simp only [Act.put, sA, sB, sC])
          refine wpAnyH_done (by kernel_rfl) ?_ _
          go_wp2_with fail
          exact ⟨⟨i + 1, by omega, by omega, by simp, _, by rw [hmap]; exact hoz2, hk2, hB2, hz2⟩, by simp [Go.RowKit.intOf]; omega⟩
        refine AllReadyH.cons (by simp only [gA, gB, gC]; rfl) (fun K hK => ?_) AllReadyH.nil
        refine step_build1 lab_ok (by decide) rfl _ rfl [.int .i64 (goodL tt).s, .int .i64 (goodL tt).c, .int .i64 (goodL tt).i, .int .i64 (goodL tt).k] rfl rfl ?_
        (try simp only [Act.put, sA, sB, sC])
        refine hK.out _ _ (hS1.below (alloc_below _ _)) ?_
        clear hHeld hK
        intro hHeld
        obtain ⟨vz, wz, hap, hoz, hgz⟩ := OwnR.push lab_ok ho1 hz1 (goodL tt) [.int .i64 (goodL tt).s, .int .i64 (goodL tt).c, .int .i64 (goodL tt).i, .int .i64 (goodL tt).k].toArray rfl 26 (by omega)
        have hbz := ho1.grew_below hz1 hgz
        have hkz := hk1.same (hbz.block _ (by omega))
        have hzz := Nat.le_trans hz1 hbz.size
        have hBz := hB1.trans (hbz.mono (by omega))
        have hSz : CellsAt wz (ya.add (i * 4)) [.int .i64 tt.s, .int .i64 tt.c, .int .i64 tt.i, .int .i64 tt.k] := (hlr.below lab_ok.len hBz).at lab_ok.len hti
        have hS2 := hS1.below (alloc_below w1 (.cells [.int .i64 (goodL tt).s, .int .i64 (goodL tt).c, .int .i64 (goodL tt).i, .int .i64 (goodL tt).k].toArray 26))
        have hk2 := hk1.same ((alloc_below w1 (.cells [.int .i64 (goodL tt).s, .int .i64 (goodL tt).c, .int .i64 (goodL tt).i, .int .i64 (goodL tt).k].toArray 26)).block _ (by omega))
        have hz2 := Nat.le_trans hz1 (alloc_below w1 (.cells [.int .i64 (goodL tt).s, .int .i64 (goodL tt).c, .int .i64 (goodL tt).i, .int .i64 (goodL tt).k].toArray 26)).size
        have ho2 := ho1
        have hB2 := hB1
        obtain ⟨w2, hww⟩ : ∃ w', w1.alloc (.cells [.int .i64 (goodL tt).s, .int .i64 (goodL tt).c, .int .i64 (goodL tt).i, .int .i64 (goodL tt).k].toArray 26) = w' := ⟨_, rfl⟩
        rw [hww] at hS2 hk2 hz2 hap hHeld ⊢
        clear hww
        (try simp only [Act.put, sA, sB, sC])
        refine wpAnyH_ready (rs := [1]) (by kernel_rfl) (by simp) ?_
        refine AllReadyH.cons (by simp only [gA, gB, gC]; rfl) (fun K hK => ?_) AllReadyH.nil
        have hcf := (hk2 0 _ rfl).1
        go_simp
        refine hK.out _ _ (hS2) ?_
        clear hHeld hK
        intro hHeld
        obtain ⟨w3, hww⟩ : ∃ w', w' = w2 := ⟨_, rfl⟩
        subst hww
        have hS3 := hS2
        have hk3 := hk2
        have hz3 := hz2
        have ho3 := ho2
        have hB3 := hB2
        (try simp only [Act.put, sA, sB, sC])
        refine wpAnyH_ready (rs := [8]) (by kernel_rfl) (by simp) ?_
        refine AllReadyH.cons (by simp only [gA, gB, gC]; rfl) (fun K hK => ?_) AllReadyH.nil
        refine step_append rfl _ _ rfl rfl rfl rfl hap ?_
        (try simp only [Act.put, sA, sB, sC])
        refine hK.out _ _ (hSz) ?_
        clear hHeld hK
        intro hHeld
        have hcz := hkz 0 _ rfl
        have hk2 := hkz.set 0 vz (by simp)
        have hoz2 := hoz.set (g := w.heap.size) (j := 0) (u := vz) (fun q => by have := (hoz.lt q).1; omega)
        have hB2 : Below w.heap.size w (wz.setCell ⟨w.heap.size, 0, none⟩ vz) := hBz.setCell (p := ⟨w.heap.size, 0, none⟩) (Nat.le_refl _) _
        have hz2 : w.heap.size + 1 ≤ (wz.setCell ⟨w.heap.size, 0, none⟩ vz).heap.size := by simpa using hzz
        have hS2 : CellsAt (wz.setCell ⟨w.heap.size, 0, none⟩ vz) (ya.add (i * 4)) [.int .i64 tt.s, .int .i64 tt.c, .int .i64 tt.i, .int .i64 tt.k] := (hlr.below lab_ok.len hB2).at lab_ok.len hti
        obtain ⟨av, cv, hvv, -, -, -⟩ := OwnR.slice lab_ok.len hoz
        generalize (L ++ [goodL tt]).length = lz at hvv
        subst hvv
        (try simp only [Act.put, sA, sB, sC])
        refine wpAnyH_take (i := 9) (v := ?_) (by simp only [gA, gB, gC]; rfl) (by kernel_rfl) (by kernel_rfl) (by kernel_rfl) (by exact fun _ _ _ h => h) (Or.inl ⟨by rfl, ?_⟩) (by assumption) ?_; rotate_left; (focus (intro w hSw; (try dsimp only at hSw); go_simp; try with_reducible rfl)); (try simp only [Act.put, sA, sB, sC])
        refine wpAnyH_ready (rs := [10]) (by kernel_rfl) (by simp) ?_
        refine AllReadyH.cons (by simp only [gA, gB, gC]; rfl) (fun K hK => ?_) AllReadyH.nil
        go_simp
        refine hK.out _ _ (hS2) ?_
        clear hHeld hK
        intro hHeld
        (try simp only [Act.put, sA, sB, sC])
        refine wpAnyH_done (by kernel_rfl) ?_ _
        go_wp2_with fail
        exact ⟨⟨i + 1, by omega, by omega, by simp, _, by rw [hmap]; exact hoz2, hk2, hB2, hz2⟩, by simp [Go.RowKit.intOf]; omega⟩
      · have hend : (ts.take i).map goodL = (ts.take 8).map goodL := by
          have hnn := hn.out
          by_cases h4 : i = 8
          · rw [h4]
          · rw [List.take_of_length_le (by omega), List.take_of_length_le (by omega)]
        rw [hend] at ho
        by_cases hin : i < n
        · obtain rfl : i = 8 := by omega
          have i1 : ((8 : Nat) : Int) < (n : Int) := by omega
          go_wp2_with fail
          go_meet
          exact ⟨v, ho, hk, hB, hz⟩
        · obtain rfl : i = n := by omega
          go_wp2_with fail
          go_meet
          exact ⟨v, ho, hk, hB, hz⟩
  case rest =>
    clear hb0 hB0 hz0
    obtain ⟨v, ho, hk, hB, hz⟩ := hcut
    have hl8 : ((ts.take 8).map goodL).length ≤ 8 := by simp; omega
    have hgood : ∀ t ∈ (ts.take 8).map goodL, GL t := fun t ht => by
      obtain ⟨u, _, rfl⟩ := List.mem_map.1 ht
      exact good_GL u
    generalize (ts.take 8).map goodL = L at *
    obtain ⟨va, vc, hvv, -, -, hLr⟩ := OwnR.slice lab_ok.len ho
    subst hvv
    have hkL : BlkL w.heap.size [.slice va L.length vc, .slice none 0 0, .slice none 0 0] wc := ⟨hk, hk.lt rfl⟩
    have hrow := hkL.range
    clear ho hk
    go_wp2_with (first | (refine wpList_load_row rfl _ rfl _ rfl [.slice va L.length vc, .slice none 0 0, .slice none 0 0] hrow Tryd.underlying58 rfl hcf ?_) | fail)
    refine (tfirst_any va vc L _ _ _ _ _ _ (by omega) wc hLr).mono ?_
    rintro e W1 ⟨v1, l, rfl, hO1, hnm, hat, hB1⟩
    have hT : Tree (namesP l) := by rw [hnm]; exact first_tree hgood (by omega)
    have hF := tree_fine hT
    have hll := first_len hnm
    have hdl := dist_len L L.length
    have hl9 : l.length ≤ 9 := by omega
    replace hll : Aside (l.length = (distTo L L.length).length + 1) := hll
    obtain ⟨a, c, rfl, -, -, hr1⟩ := OwnR.slice pn_len hO1
    have hR1 : RowN W1 a l := ⟨hr1, hat⟩
    have hk1 := stab_blk _ _ _ _ hkL hB1
    have hLr1 := hLr.below lab_ok.len hB1
    have hrow1 := hk1.range
    have hB01 := Below.then hB hB1
    clear hkL hLr hO1 hr1 hat hrow
    go_wp2_with (first | (refine wpList_load_row rfl _ rfl _ rfl [.slice va L.length vc, .slice none 0 0, .slice none 0 0] hrow1 Tryd.underlying58 rfl hcf ?_) | fail)
    refine (rfirstT_any va vc L _ _ _ _ _ _ (by omega) W1 hLr1).mono ?_
    rintro e W2 ⟨v2, rfl, hO2, hG2, hB2⟩
    have hn2 := firstP_names L L.length (some ⟨W1.heap.size + 1, 0, none⟩)
    have hat2 := first_at L (some ⟨W1.heap.size + 1, 0, none⟩) W2 hG2
    have hl2 : (firstP L L.length (some ⟨W1.heap.size + 1, 0, none⟩)).length ≤ 9 := by rw [firstP_len]; omega
    generalize firstP L L.length (some ⟨W1.heap.size + 1, 0, none⟩) = F at *
    obtain ⟨a2, c2, rfl, -, -, hr2⟩ := OwnR.slice pn_len hO2
    have hR2 : RowN W2 a2 F := ⟨hr2, hat2⟩
    have ks := sameT_any a a2 c c2 l F (by omega) (by omega) (fine_fits hF) W2 (hR1.below hB2) hR2
    rw [show sameN (namesP l) (namesP F) = true from sameN_iff.2 (by rw [hnm, hn2]; rfl)] at ks
    have hk2 := stab_blk _ _ _ _ hk1 hB2
    have hLr2 := hLr1.below lab_ok.len hB2
    have hR12 := hR1.below hB2
    have hB02 := Below.then hB01 hB2
    clear hk1 hLr1 hrow1 hB01 hO2 hG2 hn2 hat2 hr2 hR1
    generalize F.length = nf at *
    go_wp2_with fail
    refine ks.mono ?_
    rintro e W3 ⟨rfl, hB3⟩
    have hk3 := stab_blk _ _ _ _ hk2 hB3
    have hLr3 := hLr2.below lab_ok.len hB3
    have hR3 := hR12.below hB3
    have hB03 := Below.then hB02 hB3
    clear ks hk2 hLr2 hR12 hB02 hR2
    have kc := tcheck_any a c l (by omega) hF.small W3 hR3 (hM.below hB03)
    rw [hT.check] at kc
    go_wp2_with fail
    refine kc.mono ?_
    rintro e W4 ⟨rfl, hB4⟩
    have hk4 := stab_blk _ _ _ _ hk3 hB4
    have hLr4 := hLr3.below lab_ok.len hB4
    have hR4 := hR3.below hB4
    have hB04 := Below.then hB03 hB4
    clear kc hk3 hLr3 hR3 hB03
    obtain ⟨D, hD⟩ : ∃ D, distTo L L.length = D := ⟨_, rfl⟩
    have hnd := dist_nodup L L.length (Nat.le_refl _)
    have hdm := dist_mem L L.length (Nat.le_refl _)
    rw [List.take_length] at hdm
    have hget : ∀ k x, l[k + 1]? = some x → ∃ u, D[k]? = some u ∧ x.n.label = u ∧ x.n.dir = true := fun k x hx => by rw [← hD]; exact first_get hnm hx
    replace hll := hll.out
    rw [hD] at hnd hdm hll hdl
    obtain ⟨nd, hnd2⟩ : ∃ nd, D.length = nd := ⟨_, rfl⟩
    obtain ⟨nL, hnL⟩ : ∃ nL, L.length = nL := ⟨_, rfl⟩
    rw [hnd2] at hll hdl
    rw [hnL] at hl8 hdl hk4 ⊢
    rw [hll]
    replace hll : Aside _ := hll
    replace hnL : Aside _ := hnL
    replace hnd2 : Aside _ := hnd2
    clear hD hnm
    go_wp2_with fail
    go_loopw [6] (fun t6 wr => ∃ i : Nat, i ≤ nL ∧ t6 = .int .i64 (i : Int) ∧ Below W4.heap.size W4 wr) (fun t6 _ => nL - (Go.RowKit.intOf t6).toNat)
    case atStart => exact ⟨0, by omega, rfl, Below.refl _ _⟩
    case round =>
      obtain ⟨i, hi, rfl, hBi⟩ := hrel
      have hc0 := ((stab_blk _ _ _ _ hk4 hBi).1 0 _ rfl).1
      by_cases hlt : i < nL
      · obtain ⟨tt, htt⟩ : ∃ tt, L[i]? = some tt := ⟨_, List.getElem?_eq_getElem (by rw [hnL.out]; exact hlt)⟩
        have htm := (hdm tt).2 (List.mem_of_getElem? htt)
        have hone := cnt_one hnd htm
        obtain ⟨yl, rfl, -⟩ := hLr4 i tt htt
        have i1 : (i : Int) < (nL : Int) := by omega
        go_wp2_with fail
        clear hc0
        go_loopw [7, 8] (fun t7 t8 wr => ∃ k : Nat, k ≤ nd ∧ t8 = .int .i64 ((k + 1 : Nat) : Int) ∧ t7 = .int .i64 ((cntT D tt k : Nat) : Int) ∧ Below W4.heap.size W4 wr) (fun _ t8 _ => nd + 1 - (Go.RowKit.intOf t8).toNat)
        case atStart => exact ⟨0, by omega, rfl, rfl, hBi⟩
        case round =>
          clear hBi
          obtain ⟨k, hk, rfl, rfl, hBk⟩ := hrel
          obtain ⟨q, hq⟩ : ∃ q, q = k + 1 := ⟨_, rfl⟩
          have hcl := cnt_le D tt k
          rw [hnd2.out] at hcl
          by_cases hlk : k < nd
          · obtain ⟨x, hx⟩ : ∃ x, l[q]? = some x := ⟨_, List.getElem?_eq_getElem (by rw [hll.out]; omega)⟩
            rw [← hq]
            obtain ⟨u, hu, hxl, hxd⟩ := hget k x (by rw [← hq]; exact hx)
            have hcs := cnt_succ (t := tt) hu
            obtain ⟨ya, rfl⟩ := hR4.some_ hx
            have hRk := hR4.below (Below.then hBk (Below.refl _ _).drew)
            have hat := hRk.r.at pn_len hx
            have hs1 : CellsAt wr.drew ⟨(ya.add (q * 16)).block, (ya.add (q * 16)).off + 2, none⟩ [.int .i64 u.s, .int .i64 u.c, .int .i64 u.i, .int .i64 u.k] := by
              have := pn_lab hat
              rw [hxl] at this
              exact this
            have hs2 : wr.drew.cell? ⟨(ya.add (q * 16)).block, (ya.add (q * 16)).off + 1, none⟩ = some (.bool true) := by
              have := pn_dir hat
              rw [hxd] at this
              exact this
            have hs3 : CellsAt wr.drew (yl.add (i * 4)) [.int .i64 tt.s, .int .i64 tt.c, .int .i64 tt.i, .int .i64 tt.k] := (hLr4.below lab_ok.len (Below.then hBk (Below.refl _ _).drew)).at lab_ok.len htt
            have hs4 : wr.drew.cell? ⟨w.heap.size, 0, none⟩ = some (.slice (some yl) nL vc) := ((stab_blk _ _ _ _ hk4 (Below.then hBk (Below.refl _ _).drew)).1 0 _ rfl).1
            have hS : (fun W => CellsAt W ⟨(ya.add (q * 16)).block, (ya.add (q * 16)).off + 2, none⟩ [.int .i64 u.s, .int .i64 u.c, .int .i64 u.i, .int .i64 u.k] ∧ W.cell? ⟨(ya.add (q * 16)).block, (ya.add (q * 16)).off + 1, none⟩ = some (.bool true) ∧ CellsAt W (yl.add (i * 4)) [.int .i64 tt.s, .int .i64 tt.c, .int .i64 tt.i, .int .i64 tt.k] ∧ W.cell? ⟨w.heap.size, 0, none⟩ = some (.slice (some yl) nL vc)) wr.drew := ⟨hs1, hs2, hs3, hs4⟩
            have heq := run_eql_lab u tt
            replace heq : ∀ W, (binOp .eql 26 (.agg #[.int .i64 u.s, .int .i64 u.c, .int .i64 u.i, .int .i64 u.k]) (.agg #[.int .i64 tt.s, .int .i64 tt.c, .int .i64 tt.i, .int .i64 tt.k])).run Tryd.prog W = .ok (.bool (labEq u tt)) W := heq
            have j1 : (q : Int) < ((nd + 1 : Nat) : Int) := by omega
            have j2 : (q : Int) < (nd : Int) + 1 := by omega
            replace hq : Aside (q = k + 1) := hq
            clear hs1 hs2 hs3 hs4 hat hRk hx hu
            cases hle : labEq u tt
            · rw [hle, if_neg (by decide)] at hcs
              rw [hle] at heq
              go_wp2_with fail
              refine wp_region_held_drew (S := (fun W => CellsAt W ⟨(ya.add (q * 16)).block, (ya.add (q * 16)).off + 2, none⟩ [.int .i64 u.s, .int .i64 u.c, .int .i64 u.i, .int .i64 u.k] ∧ W.cell? ⟨(ya.add (q * 16)).block, (ya.add (q * 16)).off + 1, none⟩ = some (.bool true) ∧ CellsAt W (yl.add (i * 4)) [.int .i64 tt.s, .int .i64 tt.c, .int .i64 tt.i, .int .i64 tt.k] ∧ W.cell? ⟨w.heap.size, 0, none⟩ = some (.slice (some yl) nL vc))) (by kernel_rfl) (by exact hS) ?_
              intro hHeld
              (first | (refine wpAnyH_take (i := 0) (v := ?_) (by simp only [gA, gB, gC]; rfl) (by kernel_rfl) (by kernel_rfl) (by kernel_rfl) (by exact fun _ _ _ h => h) (Or.inl ⟨by rfl, ?_⟩) (by assumption) ?_; rotate_left; (focus (intro w hSw; (try dsimp only at hSw); go_simp; try with_reducible rfl))) | (refine wpAnyH_take (i := 0) (v := undef) (by simp only [gA, gB, gC]; rfl) (by kernel_rfl) (by kernel_rfl) (by kernel_rfl) (by exact fun _ _ _ h => h) (Or.inr ⟨by rfl, rfl⟩) (by assumption) ?_) | fail); simp only [Act.put, sA, sB, sC, Bool.not_true, Bool.not_false]
              (first | (refine wpAnyH_take (i := 1) (v := ?_) (by simp only [gA, gB, gC]; rfl) (by kernel_rfl) (by kernel_rfl) (by kernel_rfl) (by exact fun _ _ _ h => h) (Or.inl ⟨by rfl, ?_⟩) (by assumption) ?_; rotate_left; (focus (intro w hSw; (try dsimp only at hSw); go_simp; try with_reducible rfl))) | (refine wpAnyH_take (i := 1) (v := undef) (by simp only [gA, gB, gC]; rfl) (by kernel_rfl) (by kernel_rfl) (by kernel_rfl) (by exact fun _ _ _ h => h) (Or.inr ⟨by rfl, rfl⟩) (by assumption) ?_) | fail); simp only [Act.put, sA, sB, sC, Bool.not_true, Bool.not_false]
              (first | (refine wpAnyH_take (i := 2) (v := ?_) (by simp only [gA, gB, gC]; rfl) (by kernel_rfl) (by kernel_rfl) (by kernel_rfl) (by exact fun _ _ _ h => h) (Or.inl ⟨by rfl, ?_⟩) (by assumption) ?_; rotate_left; (focus (intro w hSw; (try dsimp only at hSw); go_simp; try with_reducible rfl))) | (refine wpAnyH_take (i := 2) (v := undef) (by simp only [gA, gB, gC]; rfl) (by kernel_rfl) (by kernel_rfl) (by kernel_rfl) (by exact fun _ _ _ h => h) (Or.inr ⟨by rfl, rfl⟩) (by assumption) ?_) | fail); simp only [Act.put, sA, sB, sC, Bool.not_true, Bool.not_false]
              (first | (refine wpAnyH_take (i := 3) (v := ?_) (by simp only [gA, gB, gC]; rfl) (by kernel_rfl) (by kernel_rfl) (by kernel_rfl) (by exact fun _ _ _ h => h) (Or.inl ⟨by rfl, ?_⟩) (by assumption) ?_; rotate_left; (focus (intro w hSw; (try dsimp only at hSw); go_simp; try with_reducible rfl))) | (refine wpAnyH_take (i := 3) (v := undef) (by simp only [gA, gB, gC]; rfl) (by kernel_rfl) (by kernel_rfl) (by kernel_rfl) (by exact fun _ _ _ h => h) (Or.inr ⟨by rfl, rfl⟩) (by assumption) ?_) | fail); simp only [Act.put, sA, sB, sC, Bool.not_true, Bool.not_false]
              (first | (refine wpAnyH_take (i := 4) (v := _) (by simp only [gA, gB, gC]; rfl) (by kernel_rfl) (by kernel_rfl) (by kernel_rfl) (by exact fun _ _ _ h => h) (yields_at (by rfl) _ rfl _ rfl [.int .i64 u.s, .int .i64 u.c, .int .i64 u.i, .int .i64 u.k] (fun _ q => q.1) Tryd.underlying26 rfl hsl) (by assumption) ?_) | (refine wpAnyH_take (i := 4) (v := undef) (by simp only [gA, gB, gC]; rfl) (by kernel_rfl) (by kernel_rfl) (by kernel_rfl) (by exact fun _ _ _ h => h) (Or.inr ⟨by rfl, rfl⟩) (by assumption) ?_) | fail); simp only [Act.put, sA, sB, sC, Bool.not_true, Bool.not_false]
              (first | (refine wpAnyH_take (i := 5) (v := ?_) (by simp only [gA, gB, gC]; rfl) (by kernel_rfl) (by kernel_rfl) (by kernel_rfl) (by exact fun _ _ _ h => h) (Or.inl ⟨by rfl, ?_⟩) (by assumption) ?_; rotate_left; (focus (intro w hSw; (try dsimp only at hSw); go_simp; try with_reducible rfl))) | (refine wpAnyH_take (i := 5) (v := undef) (by simp only [gA, gB, gC]; rfl) (by kernel_rfl) (by kernel_rfl) (by kernel_rfl) (by exact fun _ _ _ h => h) (Or.inr ⟨by rfl, rfl⟩) (by assumption) ?_) | fail); simp only [Act.put, sA, sB, sC, Bool.not_true, Bool.not_false]
              (first | (refine wpAnyH_take (i := 6) (v := _) (by simp only [gA, gB, gC]; rfl) (by kernel_rfl) (by kernel_rfl) (by kernel_rfl) (by exact fun _ _ _ h => h) (yields_cell (by rfl) _ rfl ⟨w.heap.size, 0, none⟩ rfl (.slice (some yl) nL vc) (fun _ q => q.2.2.2) labs_load) (by assumption) ?_) | (refine wpAnyH_take (i := 6) (v := undef) (by simp only [gA, gB, gC]; rfl) (by kernel_rfl) (by kernel_rfl) (by kernel_rfl) (by exact fun _ _ _ h => h) (Or.inr ⟨by rfl, rfl⟩) (by assumption) ?_) | fail); simp only [Act.put, sA, sB, sC, Bool.not_true, Bool.not_false]
              (first | (refine wpAnyH_take (i := 7) (v := ?_) (by simp only [gA, gB, gC]; rfl) (by kernel_rfl) (by kernel_rfl) (by kernel_rfl) (by exact fun _ _ _ h => h) (Or.inl ⟨by rfl, ?_⟩) (by assumption) ?_; rotate_left; (focus (intro w hSw; (try dsimp only at hSw); go_simp; try with_reducible rfl))) | (refine wpAnyH_take (i := 7) (v := undef) (by simp only [gA, gB, gC]; rfl) (by kernel_rfl) (by kernel_rfl) (by kernel_rfl) (by exact fun _ _ _ h => h) (Or.inr ⟨by rfl, rfl⟩) (by assumption) ?_) | fail); simp only [Act.put, sA, sB, sC, Bool.not_true, Bool.not_false]
              (first | (refine wpAnyH_take (i := 8) (v := ?_) (by simp only [gA, gB, gC]; rfl) (by kernel_rfl) (by kernel_rfl) (by kernel_rfl) (by exact fun _ _ _ h => h) (Or.inl ⟨by rfl, ?_⟩) (by assumption) ?_; rotate_left; (focus (intro w hSw; (try dsimp only at hSw); go_simp; try with_reducible rfl))) | (refine wpAnyH_take (i := 8) (v := undef) (by simp only [gA, gB, gC]; rfl) (by kernel_rfl) (by kernel_rfl) (by kernel_rfl) (by exact fun _ _ _ h => h) (Or.inr ⟨by rfl, rfl⟩) (by assumption) ?_) | fail); simp only [Act.put, sA, sB, sC, Bool.not_true, Bool.not_false]
              (first | (refine wpAnyH_take (i := 9) (v := _) (by simp only [gA, gB, gC]; rfl) (by kernel_rfl) (by kernel_rfl) (by kernel_rfl) (by exact fun _ _ _ h => h) (yields_at (by rfl) _ rfl _ rfl [.int .i64 tt.s, .int .i64 tt.c, .int .i64 tt.i, .int .i64 tt.k] (fun _ q => q.2.2.1) Tryd.underlying26 rfl hsl) (by assumption) ?_) | (refine wpAnyH_take (i := 9) (v := undef) (by simp only [gA, gB, gC]; rfl) (by kernel_rfl) (by kernel_rfl) (by kernel_rfl) (by exact fun _ _ _ h => h) (Or.inr ⟨by rfl, rfl⟩) (by assumption) ?_) | fail); simp only [Act.put, sA, sB, sC, Bool.not_true, Bool.not_false]
              (first | (refine wpAnyH_take (i := 10) (v := ?_) (by simp only [gA, gB, gC]; rfl) (by kernel_rfl) (by kernel_rfl) (by kernel_rfl) (by exact fun _ _ _ h => h) (Or.inl ⟨by rfl, ?_⟩) (by assumption) ?_; rotate_left; (focus (intro w hSw; (try dsimp only at hSw); go_simp; try with_reducible rfl))) | (refine wpAnyH_take (i := 10) (v := undef) (by simp only [gA, gB, gC]; rfl) (by kernel_rfl) (by kernel_rfl) (by kernel_rfl) (by exact fun _ _ _ h => h) (Or.inr ⟨by rfl, rfl⟩) (by assumption) ?_) | fail); simp only [Act.put, sA, sB, sC, Bool.not_true, Bool.not_false]
              (first | (refine wpAnyH_take (i := 11) (v := ?_) (by simp only [gA, gB, gC]; rfl) (by kernel_rfl) (by kernel_rfl) (by kernel_rfl) (by exact fun _ _ _ h => h) (Or.inl ⟨by rfl, ?_⟩) (by assumption) ?_; rotate_left; (focus (intro w hSw; (try dsimp only at hSw); go_simp; try with_reducible rfl))) | (refine wpAnyH_take (i := 11) (v := undef) (by simp only [gA, gB, gC]; rfl) (by kernel_rfl) (by kernel_rfl) (by kernel_rfl) (by exact fun _ _ _ h => h) (Or.inr ⟨by rfl, rfl⟩) (by assumption) ?_) | fail); simp only [Act.put, sA, sB, sC, Bool.not_true, Bool.not_false]
              (first | (refine wpAnyH_take (i := 12) (v := ?_) (by simp only [gA, gB, gC]; rfl) (by kernel_rfl) (by kernel_rfl) (by kernel_rfl) (by exact fun _ _ _ h => h) (Or.inl ⟨by rfl, ?_⟩) (by assumption) ?_; rotate_left; (focus (intro w hSw; (try dsimp only at hSw); go_simp; try with_reducible rfl))) | (refine wpAnyH_take (i := 12) (v := undef) (by simp only [gA, gB, gC]; rfl) (by kernel_rfl) (by kernel_rfl) (by kernel_rfl) (by exact fun _ _ _ h => h) (Or.inr ⟨by rfl, rfl⟩) (by assumption) ?_) | fail); simp only [Act.put, sA, sB, sC, Bool.not_true, Bool.not_false]
              (first | (refine wpAnyH_take (i := 13) (v := ?_) (by simp only [gA, gB, gC]; rfl) (by kernel_rfl) (by kernel_rfl) (by kernel_rfl) (by exact fun _ _ _ h => h) (Or.inl ⟨by rfl, ?_⟩) (by assumption) ?_; rotate_left; (focus (intro w hSw; (try dsimp only at hSw); go_simp; try with_reducible rfl))) | (refine wpAnyH_take (i := 13) (v := undef) (by simp only [gA, gB, gC]; rfl) (by kernel_rfl) (by kernel_rfl) (by kernel_rfl) (by exact fun _ _ _ h => h) (Or.inr ⟨by rfl, rfl⟩) (by assumption) ?_) | fail); simp only [Act.put, sA, sB, sC, Bool.not_true, Bool.not_false]
              (first | (refine wpAnyH_take (i := 14) (v := ?_) (by simp only [gA, gB, gC]; rfl) (by kernel_rfl) (by kernel_rfl) (by kernel_rfl) (by exact fun _ _ _ h => h) (Or.inl ⟨by rfl, ?_⟩) (by assumption) ?_; rotate_left; (focus (intro w hSw; (try dsimp only at hSw); go_simp; try with_reducible rfl))) | (refine wpAnyH_take (i := 14) (v := undef) (by simp only [gA, gB, gC]; rfl) (by kernel_rfl) (by kernel_rfl) (by kernel_rfl) (by exact fun _ _ _ h => h) (Or.inr ⟨by rfl, rfl⟩) (by assumption) ?_) | fail); simp only [Act.put, sA, sB, sC, Bool.not_true, Bool.not_false]
              (first | (refine wpAnyH_take (i := 15) (v := ?_) (by simp only [gA, gB, gC]; rfl) (by kernel_rfl) (by kernel_rfl) (by kernel_rfl) (by exact fun _ _ _ h => h) (Or.inl ⟨by rfl, ?_⟩) (by assumption) ?_; rotate_left; (focus (intro w hSw; (try dsimp only at hSw); go_simp; try with_reducible rfl))) | (refine wpAnyH_take (i := 15) (v := undef) (by simp only [gA, gB, gC]; rfl) (by kernel_rfl) (by kernel_rfl) (by kernel_rfl) (by exact fun _ _ _ h => h) (Or.inr ⟨by rfl, rfl⟩) (by assumption) ?_) | fail); simp only [Act.put, sA, sB, sC, Bool.not_true, Bool.not_false]
              (first | (refine wpAnyH_take (i := 16) (v := _) (by simp only [gA, gB, gC]; rfl) (by kernel_rfl) (by kernel_rfl) (by kernel_rfl) (by exact fun _ _ _ h => h) (yields_one (by rfl) _ rfl _ rfl (.bool true) (fun _ q => q.2.1) bool_load) (by assumption) ?_) | (refine wpAnyH_take (i := 16) (v := undef) (by simp only [gA, gB, gC]; rfl) (by kernel_rfl) (by kernel_rfl) (by kernel_rfl) (by exact fun _ _ _ h => h) (Or.inr ⟨by rfl, rfl⟩) (by assumption) ?_) | fail); simp only [Act.put, sA, sB, sC, Bool.not_true, Bool.not_false]
              (first | (refine wpAnyH_take (i := 17) (v := ?_) (by simp only [gA, gB, gC]; rfl) (by kernel_rfl) (by kernel_rfl) (by kernel_rfl) (by exact fun _ _ _ h => h) (Or.inl ⟨by rfl, ?_⟩) (by assumption) ?_; rotate_left; (focus (intro w hSw; (try dsimp only at hSw); go_simp; try with_reducible rfl))) | (refine wpAnyH_take (i := 17) (v := undef) (by simp only [gA, gB, gC]; rfl) (by kernel_rfl) (by kernel_rfl) (by kernel_rfl) (by exact fun _ _ _ h => h) (Or.inr ⟨by rfl, rfl⟩) (by assumption) ?_) | fail); simp only [Act.put, sA, sB, sC, Bool.not_true, Bool.not_false]
              refine wpAnyH_done (by kernel_rfl) ?_ _
              go_wp2_with fail
              exact ⟨⟨k + 1, by omega, by rw [hq.out]; simp, by rw [hcs]; simp, Below.then hBk (Below.refl _ _).drew⟩, by have := hq.out; simp [Go.RowKit.intOf]; omega⟩
            · rw [hle, if_pos rfl] at hcs
              rw [hle] at heq
              go_wp2_with fail
              refine wp_region_held_drew (S := (fun W => CellsAt W ⟨(ya.add (q * 16)).block, (ya.add (q * 16)).off + 2, none⟩ [.int .i64 u.s, .int .i64 u.c, .int .i64 u.i, .int .i64 u.k] ∧ W.cell? ⟨(ya.add (q * 16)).block, (ya.add (q * 16)).off + 1, none⟩ = some (.bool true) ∧ CellsAt W (yl.add (i * 4)) [.int .i64 tt.s, .int .i64 tt.c, .int .i64 tt.i, .int .i64 tt.k] ∧ W.cell? ⟨w.heap.size, 0, none⟩ = some (.slice (some yl) nL vc))) (by kernel_rfl) (by exact hS) ?_
              intro hHeld
              (first | (refine wpAnyH_take (i := 0) (v := ?_) (by simp only [gA, gB, gC]; rfl) (by kernel_rfl) (by kernel_rfl) (by kernel_rfl) (by exact fun _ _ _ h => h) (Or.inl ⟨by rfl, ?_⟩) (by assumption) ?_; rotate_left; (focus (intro w hSw; (try dsimp only at hSw); go_simp; try with_reducible rfl))) | (refine wpAnyH_take (i := 0) (v := undef) (by simp only [gA, gB, gC]; rfl) (by kernel_rfl) (by kernel_rfl) (by kernel_rfl) (by exact fun _ _ _ h => h) (Or.inr ⟨by rfl, rfl⟩) (by assumption) ?_) | fail); simp only [Act.put, sA, sB, sC, Bool.not_true, Bool.not_false]
              (first | (refine wpAnyH_take (i := 1) (v := ?_) (by simp only [gA, gB, gC]; rfl) (by kernel_rfl) (by kernel_rfl) (by kernel_rfl) (by exact fun _ _ _ h => h) (Or.inl ⟨by rfl, ?_⟩) (by assumption) ?_; rotate_left; (focus (intro w hSw; (try dsimp only at hSw); go_simp; try with_reducible rfl))) | (refine wpAnyH_take (i := 1) (v := undef) (by simp only [gA, gB, gC]; rfl) (by kernel_rfl) (by kernel_rfl) (by kernel_rfl) (by exact fun _ _ _ h => h) (Or.inr ⟨by rfl, rfl⟩) (by assumption) ?_) | fail); simp only [Act.put, sA, sB, sC, Bool.not_true, Bool.not_false]
              (first | (refine wpAnyH_take (i := 2) (v := ?_) (by simp only [gA, gB, gC]; rfl) (by kernel_rfl) (by kernel_rfl) (by kernel_rfl) (by exact fun _ _ _ h => h) (Or.inl ⟨by rfl, ?_⟩) (by assumption) ?_; rotate_left; (focus (intro w hSw; (try dsimp only at hSw); go_simp; try with_reducible rfl))) | (refine wpAnyH_take (i := 2) (v := undef) (by simp only [gA, gB, gC]; rfl) (by kernel_rfl) (by kernel_rfl) (by kernel_rfl) (by exact fun _ _ _ h => h) (Or.inr ⟨by rfl, rfl⟩) (by assumption) ?_) | fail); simp only [Act.put, sA, sB, sC, Bool.not_true, Bool.not_false]
              (first | (refine wpAnyH_take (i := 3) (v := ?_) (by simp only [gA, gB, gC]; rfl) (by kernel_rfl) (by kernel_rfl) (by kernel_rfl) (by exact fun _ _ _ h => h) (Or.inl ⟨by rfl, ?_⟩) (by assumption) ?_; rotate_left; (focus (intro w hSw; (try dsimp only at hSw); go_simp; try with_reducible rfl))) | (refine wpAnyH_take (i := 3) (v := undef) (by simp only [gA, gB, gC]; rfl) (by kernel_rfl) (by kernel_rfl) (by kernel_rfl) (by exact fun _ _ _ h => h) (Or.inr ⟨by rfl, rfl⟩) (by assumption) ?_) | fail); simp only [Act.put, sA, sB, sC, Bool.not_true, Bool.not_false]
              (first | (refine wpAnyH_take (i := 4) (v := _) (by simp only [gA, gB, gC]; rfl) (by kernel_rfl) (by kernel_rfl) (by kernel_rfl) (by exact fun _ _ _ h => h) (yields_at (by rfl) _ rfl _ rfl [.int .i64 u.s, .int .i64 u.c, .int .i64 u.i, .int .i64 u.k] (fun _ q => q.1) Tryd.underlying26 rfl hsl) (by assumption) ?_) | (refine wpAnyH_take (i := 4) (v := undef) (by simp only [gA, gB, gC]; rfl) (by kernel_rfl) (by kernel_rfl) (by kernel_rfl) (by exact fun _ _ _ h => h) (Or.inr ⟨by rfl, rfl⟩) (by assumption) ?_) | fail); simp only [Act.put, sA, sB, sC, Bool.not_true, Bool.not_false]
              (first | (refine wpAnyH_take (i := 5) (v := ?_) (by simp only [gA, gB, gC]; rfl) (by kernel_rfl) (by kernel_rfl) (by kernel_rfl) (by exact fun _ _ _ h => h) (Or.inl ⟨by rfl, ?_⟩) (by assumption) ?_; rotate_left; (focus (intro w hSw; (try dsimp only at hSw); go_simp; try with_reducible rfl))) | (refine wpAnyH_take (i := 5) (v := undef) (by simp only [gA, gB, gC]; rfl) (by kernel_rfl) (by kernel_rfl) (by kernel_rfl) (by exact fun _ _ _ h => h) (Or.inr ⟨by rfl, rfl⟩) (by assumption) ?_) | fail); simp only [Act.put, sA, sB, sC, Bool.not_true, Bool.not_false]
              (first | (refine wpAnyH_take (i := 6) (v := _) (by simp only [gA, gB, gC]; rfl) (by kernel_rfl) (by kernel_rfl) (by kernel_rfl) (by exact fun _ _ _ h => h) (yields_cell (by rfl) _ rfl ⟨w.heap.size, 0, none⟩ rfl (.slice (some yl) nL vc) (fun _ q => q.2.2.2) labs_load) (by assumption) ?_) | (refine wpAnyH_take (i := 6) (v := undef) (by simp only [gA, gB, gC]; rfl) (by kernel_rfl) (by kernel_rfl) (by kernel_rfl) (by exact fun _ _ _ h => h) (Or.inr ⟨by rfl, rfl⟩) (by assumption) ?_) | fail); simp only [Act.put, sA, sB, sC, Bool.not_true, Bool.not_false]
              (first | (refine wpAnyH_take (i := 7) (v := ?_) (by simp only [gA, gB, gC]; rfl) (by kernel_rfl) (by kernel_rfl) (by kernel_rfl) (by exact fun _ _ _ h => h) (Or.inl ⟨by rfl, ?_⟩) (by assumption) ?_; rotate_left; (focus (intro w hSw; (try dsimp only at hSw); go_simp; try with_reducible rfl))) | (refine wpAnyH_take (i := 7) (v := undef) (by simp only [gA, gB, gC]; rfl) (by kernel_rfl) (by kernel_rfl) (by kernel_rfl) (by exact fun _ _ _ h => h) (Or.inr ⟨by rfl, rfl⟩) (by assumption) ?_) | fail); simp only [Act.put, sA, sB, sC, Bool.not_true, Bool.not_false]
              (first | (refine wpAnyH_take (i := 8) (v := ?_) (by simp only [gA, gB, gC]; rfl) (by kernel_rfl) (by kernel_rfl) (by kernel_rfl) (by exact fun _ _ _ h => h) (Or.inl ⟨by rfl, ?_⟩) (by assumption) ?_; rotate_left; (focus (intro w hSw; (try dsimp only at hSw); go_simp; try with_reducible rfl))) | (refine wpAnyH_take (i := 8) (v := undef) (by simp only [gA, gB, gC]; rfl) (by kernel_rfl) (by kernel_rfl) (by kernel_rfl) (by exact fun _ _ _ h => h) (Or.inr ⟨by rfl, rfl⟩) (by assumption) ?_) | fail); simp only [Act.put, sA, sB, sC, Bool.not_true, Bool.not_false]
              (first | (refine wpAnyH_take (i := 9) (v := _) (by simp only [gA, gB, gC]; rfl) (by kernel_rfl) (by kernel_rfl) (by kernel_rfl) (by exact fun _ _ _ h => h) (yields_at (by rfl) _ rfl _ rfl [.int .i64 tt.s, .int .i64 tt.c, .int .i64 tt.i, .int .i64 tt.k] (fun _ q => q.2.2.1) Tryd.underlying26 rfl hsl) (by assumption) ?_) | (refine wpAnyH_take (i := 9) (v := undef) (by simp only [gA, gB, gC]; rfl) (by kernel_rfl) (by kernel_rfl) (by kernel_rfl) (by exact fun _ _ _ h => h) (Or.inr ⟨by rfl, rfl⟩) (by assumption) ?_) | fail); simp only [Act.put, sA, sB, sC, Bool.not_true, Bool.not_false]
              (first | (refine wpAnyH_take (i := 10) (v := ?_) (by simp only [gA, gB, gC]; rfl) (by kernel_rfl) (by kernel_rfl) (by kernel_rfl) (by exact fun _ _ _ h => h) (Or.inl ⟨by rfl, ?_⟩) (by assumption) ?_; rotate_left; (focus (intro w hSw; (try dsimp only at hSw); go_simp; try with_reducible rfl))) | (refine wpAnyH_take (i := 10) (v := undef) (by simp only [gA, gB, gC]; rfl) (by kernel_rfl) (by kernel_rfl) (by kernel_rfl) (by exact fun _ _ _ h => h) (Or.inr ⟨by rfl, rfl⟩) (by assumption) ?_) | fail); simp only [Act.put, sA, sB, sC, Bool.not_true, Bool.not_false]
              (first | (refine wpAnyH_take (i := 11) (v := ?_) (by simp only [gA, gB, gC]; rfl) (by kernel_rfl) (by kernel_rfl) (by kernel_rfl) (by exact fun _ _ _ h => h) (Or.inl ⟨by rfl, ?_⟩) (by assumption) ?_; rotate_left; (focus (intro w hSw; (try dsimp only at hSw); go_simp; try with_reducible rfl))) | (refine wpAnyH_take (i := 11) (v := undef) (by simp only [gA, gB, gC]; rfl) (by kernel_rfl) (by kernel_rfl) (by kernel_rfl) (by exact fun _ _ _ h => h) (Or.inr ⟨by rfl, rfl⟩) (by assumption) ?_) | fail); simp only [Act.put, sA, sB, sC, Bool.not_true, Bool.not_false]
              (first | (refine wpAnyH_take (i := 12) (v := ?_) (by simp only [gA, gB, gC]; rfl) (by kernel_rfl) (by kernel_rfl) (by kernel_rfl) (by exact fun _ _ _ h => h) (Or.inl ⟨by rfl, ?_⟩) (by assumption) ?_; rotate_left; (focus (intro w hSw; (try dsimp only at hSw); go_simp; try with_reducible rfl))) | (refine wpAnyH_take (i := 12) (v := undef) (by simp only [gA, gB, gC]; rfl) (by kernel_rfl) (by kernel_rfl) (by kernel_rfl) (by exact fun _ _ _ h => h) (Or.inr ⟨by rfl, rfl⟩) (by assumption) ?_) | fail); simp only [Act.put, sA, sB, sC, Bool.not_true, Bool.not_false]
              (first | (refine wpAnyH_take (i := 13) (v := ?_) (by simp only [gA, gB, gC]; rfl) (by kernel_rfl) (by kernel_rfl) (by kernel_rfl) (by exact fun _ _ _ h => h) (Or.inl ⟨by rfl, ?_⟩) (by assumption) ?_; rotate_left; (focus (intro w hSw; (try dsimp only at hSw); go_simp; try with_reducible rfl))) | (refine wpAnyH_take (i := 13) (v := undef) (by simp only [gA, gB, gC]; rfl) (by kernel_rfl) (by kernel_rfl) (by kernel_rfl) (by exact fun _ _ _ h => h) (Or.inr ⟨by rfl, rfl⟩) (by assumption) ?_) | fail); simp only [Act.put, sA, sB, sC, Bool.not_true, Bool.not_false]
              (first | (refine wpAnyH_take (i := 14) (v := ?_) (by simp only [gA, gB, gC]; rfl) (by kernel_rfl) (by kernel_rfl) (by kernel_rfl) (by exact fun _ _ _ h => h) (Or.inl ⟨by rfl, ?_⟩) (by assumption) ?_; rotate_left; (focus (intro w hSw; (try dsimp only at hSw); go_simp; try with_reducible rfl))) | (refine wpAnyH_take (i := 14) (v := undef) (by simp only [gA, gB, gC]; rfl) (by kernel_rfl) (by kernel_rfl) (by kernel_rfl) (by exact fun _ _ _ h => h) (Or.inr ⟨by rfl, rfl⟩) (by assumption) ?_) | fail); simp only [Act.put, sA, sB, sC, Bool.not_true, Bool.not_false]
              (first | (refine wpAnyH_take (i := 15) (v := ?_) (by simp only [gA, gB, gC]; rfl) (by kernel_rfl) (by kernel_rfl) (by kernel_rfl) (by exact fun _ _ _ h => h) (Or.inl ⟨by rfl, ?_⟩) (by assumption) ?_; rotate_left; (focus (intro w hSw; (try dsimp only at hSw); go_simp; try with_reducible rfl))) | (refine wpAnyH_take (i := 15) (v := undef) (by simp only [gA, gB, gC]; rfl) (by kernel_rfl) (by kernel_rfl) (by kernel_rfl) (by exact fun _ _ _ h => h) (Or.inr ⟨by rfl, rfl⟩) (by assumption) ?_) | fail); simp only [Act.put, sA, sB, sC, Bool.not_true, Bool.not_false]
              (first | (refine wpAnyH_take (i := 16) (v := _) (by simp only [gA, gB, gC]; rfl) (by kernel_rfl) (by kernel_rfl) (by kernel_rfl) (by exact fun _ _ _ h => h) (yields_one (by rfl) _ rfl _ rfl (.bool true) (fun _ q => q.2.1) bool_load) (by assumption) ?_) | (refine wpAnyH_take (i := 16) (v := undef) (by simp only [gA, gB, gC]; rfl) (by kernel_rfl) (by kernel_rfl) (by kernel_rfl) (by exact fun _ _ _ h => h) (Or.inr ⟨by rfl, rfl⟩) (by assumption) ?_) | fail); simp only [Act.put, sA, sB, sC, Bool.not_true, Bool.not_false]
              (first | (refine wpAnyH_take (i := 17) (v := ?_) (by simp only [gA, gB, gC]; rfl) (by kernel_rfl) (by kernel_rfl) (by kernel_rfl) (by exact fun _ _ _ h => h) (Or.inl ⟨by rfl, ?_⟩) (by assumption) ?_; rotate_left; (focus (intro w hSw; (try dsimp only at hSw); go_simp; try with_reducible rfl))) | (refine wpAnyH_take (i := 17) (v := undef) (by simp only [gA, gB, gC]; rfl) (by kernel_rfl) (by kernel_rfl) (by kernel_rfl) (by exact fun _ _ _ h => h) (Or.inr ⟨by rfl, rfl⟩) (by assumption) ?_) | fail); simp only [Act.put, sA, sB, sC, Bool.not_true, Bool.not_false]
              refine wpAnyH_done (by kernel_rfl) ?_ _
              go_wp2_with fail
              exact ⟨⟨k + 1, by omega, by rw [hq.out]; simp, by rw [hcs]; simp, Below.then hBk (Below.refl _ _).drew⟩, by have := hq.out; simp [Go.RowKit.intOf]; omega⟩
          · obtain rfl : k = nd := by omega
            have hc1 : cntT D tt k = 1 := by
              unfold cntT
              rw [List.take_of_length_le (by rw [hnd2.out]; exact Nat.le_refl _)]
              exact hone
            rw [hc1]
            clear hq hcl
            go_wp2_with fail
            exact ⟨⟨i + 1, by omega, by simp, hBk⟩, by simp [Go.RowKit.intOf]; omega⟩
      · obtain rfl : i = nL := by omega
        go_wp2_with fail
        go_ret
        exact ⟨rfl, Below.then hB00 (Below.then hB04 hBi)⟩
end Go.Proofs.YtacjfbomjglnjaaDoor
