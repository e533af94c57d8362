/-
  ENTRIES, WRITTEN: the document's own EncodeEntry (donjonref10). Written by mk_nenc.py.
-/
import Derived.Test.YtecleampjeebaaaNodeMsg
import Derived.Deep.Cut
namespace Go.Proofs.Ytecleampjeebaaa
open Go.RowKit
set_option linter.unusedSimpArgs false
set_option linter.unusedVariables false

/-- An entry of a log. -/
structure Ent where
  seq : Int
  label : Lab
  user : ByteArray
  verb : Int
  object : ByteArray
  verdict : Int
abbrev Ent.v (e : Ent) : Value := .agg #[.int .i64 e.seq, .int .i64 e.label.s, .int .i64 e.label.c, .int .i64 e.label.i, .int .i64 e.label.k, .string e.user, .int .i64 e.verb, .string e.object, .int .i64 e.verdict]
structure Ent.Small (e : Ent) : Prop where
  u : e.user.size < 100000
  o : e.object.size < 100000
def encE (e : Ent) : List UInt8 := encW e.seq ++ encL e.label ++ encT e.user ++ [lowB e.verb] ++ encT e.object ++ [lowB e.verdict]
abbrev EBox (W : World) (g : Nat) (e : Ent) : Prop := W.cell? ⟨g, 0, none⟩ = some (.int .i64 e.seq) ∧ W.cell? ⟨g, 1, none⟩ = some (.int .i64 e.label.s) ∧ W.cell? ⟨g, 2, none⟩ = some (.int .i64 e.label.c) ∧ W.cell? ⟨g, 3, none⟩ = some (.int .i64 e.label.i) ∧ W.cell? ⟨g, 4, none⟩ = some (.int .i64 e.label.k) ∧ W.cell? ⟨g, 5, none⟩ = some (.string e.user) ∧ W.cell? ⟨g, 6, none⟩ = some (.int .i64 e.verb) ∧ W.cell? ⟨g, 7, none⟩ = some (.string e.object) ∧ W.cell? ⟨g, 8, none⟩ = some (.int .i64 e.verdict)
theorem EBox.keep {W W' : World} {g : Nat} {e : Ent} (h : EBox W g e) (b : Below (g + 1) W W') : EBox W' g e := by
  obtain ⟨h0, h1, h2, h3, h4, h5, h6, h7, h8⟩ := h
  have c : ∀ k, W'.cell? ⟨g, k, none⟩ = W.cell? ⟨g, k, none⟩ := fun k => b.cell (p := ⟨g, k, none⟩) (Nat.lt_succ_self g)
  exact ⟨(c _).trans h0, (c _).trans h1, (c _).trans h2, (c _).trans h3, (c _).trans h4, (c _).trans h5, (c _).trans h6, (c _).trans h7, (c _).trans h8⟩
def ecells (e : Ent) : Array Value := #[.int .i64 e.seq, .int .i64 e.label.s, .int .i64 e.label.c, .int .i64 e.label.i, .int .i64 e.label.k, .string e.user, .int .i64 e.verb, .string e.object, .int .i64 e.verdict]
theorem ebox_alloc (w : World) (e : Ent) (T : TypeId) : EBox (w.alloc (.cells (ecells e) T)) w.heap.size e := by
  refine ⟨?_, ?_, ?_, ?_, ?_, ?_, ?_, ?_, ?_⟩ <;> (rw [World.cell?_alloc_at _ _ _ _ rfl]; rfl)

set_option maxHeartbeats 4000000 in
theorem rencE_any (e : Ent) (hm : e.Small) (w : World) :
    Calls Try.prog 26 #[e.v] w fun r w' => ∃ v', r = .returned v' ∧ OwnB w' w.heap.size v' (encE e) ∧ Below w.heap.size w w' := by
  have hu := hm.u
  have hj := hm.o
  have hS : EBox (w.alloc (.cells (ecells e) 48)) w.heap.size e := ebox_alloc w e _
  have hB0 : Below w.heap.size w (w.alloc (.cells (ecells e) 48)) := alloc_below _ _
  have hz : (w.alloc (.cells (ecells e) 48)).heap.size = w.heap.size + 1 := World.size_alloc _ _
  have wv := wrap_u8 e.verb
  have wd := wrap_u8 e.verdict
  unfold ecells at hS hB0 hz
  go_enter Try.func26, Try.ntmps26
  go_wp2_with fail
  generalize w.alloc (.cells #[.int .i64 e.seq, .int .i64 e.label.s, .int .i64 e.label.c, .int .i64 e.label.i, .int .i64 e.label.k, .string e.user, .int .i64 e.verb, .string e.object, .int .i64 e.verdict] 48) = W at *
  go_cut [3] from 4 (fun s3 wc => ∃ v, s3 = v ∧ EBox wc w.heap.size e ∧ w.heap.size + 1 ≤ wc.heap.size ∧ OwnB wc (w.heap.size + 1) v (encW e.seq ++ encL e.label ++ encT e.user ++ [lowB e.verb]) ∧ Below w.heap.size w wc)
  case first =>
    have hS0 : EBox W.drew w.heap.size e := hS
    replace hB0 : Below w.heap.size w W.drew := hB0.drew
    have hz0 : w.heap.size + 1 ≤ W.drew.heap.size := by show w.heap.size + 1 ≤ W.heap.size; omega
    have ho0 : OwnB W.drew (w.heap.size + 1) (.slice none 0 0) [] := ownB_nil _ _
    clear hS hz
    refine wp_region_held_drew (S := (fun W => EBox W w.heap.size e)) (by kernel_rfl) (by exact hS0) ?_
    intro hHeld
    generalize W.drew = w0 at *
    refine wpAnyH_take (i := 0) (v := ?_) (by simp only [List.getElem?_toArray, List.getElem?_cons_zero, List.getElem?_cons_succ]; rfl) (by kernel_rfl) (by kernel_rfl) (by kernel_rfl) (by exact fun _ _ _ h => h) (Or.inl ⟨by rfl, ?_⟩) (by assumption) ?_; rotate_left; (focus (intro w hSw; (try dsimp only at hSw); go_simp; try with_reducible rfl)); (try simp only [Act.put, List.setIfInBounds_toArray, List.set_cons_zero, List.set_cons_succ])
    refine wpAnyH_take (i := 1) (v := ?_) (by simp only [List.getElem?_toArray, List.getElem?_cons_zero, List.getElem?_cons_succ]; rfl) (by kernel_rfl) (by kernel_rfl) (by kernel_rfl) (by exact fun _ _ _ h => h) (Or.inl ⟨by rfl, ?_⟩) (by assumption) ?_; rotate_left; (focus (intro w hSw; (try dsimp only at hSw); go_simp; try with_reducible rfl)); (try simp only [Act.put, List.setIfInBounds_toArray, List.set_cons_zero, List.set_cons_succ])
    refine wpAnyH_take (i := 3) (v := ?_) (by simp only [List.getElem?_toArray, List.getElem?_cons_zero, List.getElem?_cons_succ]; rfl) (by kernel_rfl) (by kernel_rfl) (by kernel_rfl) (by exact fun _ _ _ h => h) (Or.inl ⟨by rfl, ?_⟩) (by assumption) ?_; rotate_left; (focus (intro w hSw; (try dsimp only at hSw); go_simp; try with_reducible rfl)); (try simp only [Act.put, List.setIfInBounds_toArray, List.set_cons_zero, List.set_cons_succ])
    refine wpAnyH_take (i := 4) (v := ?_) (by simp only [List.getElem?_toArray, List.getElem?_cons_zero, List.getElem?_cons_succ]; rfl) (by kernel_rfl) (by kernel_rfl) (by kernel_rfl) (by exact fun _ _ _ h => h) (Or.inl ⟨by rfl, ?_⟩) (by assumption) ?_; rotate_left; (focus (intro w hSw; (try dsimp only at hSw); go_simp; try with_reducible rfl)); (try simp only [Act.put, List.setIfInBounds_toArray, List.set_cons_zero, List.set_cons_succ])
    refine wpAnyH_take (i := 6) (v := ?_) (by simp only [List.getElem?_toArray, List.getElem?_cons_zero, List.getElem?_cons_succ]; rfl) (by kernel_rfl) (by kernel_rfl) (by kernel_rfl) (by exact fun _ _ _ h => h) (Or.inl ⟨by rfl, ?_⟩) (by assumption) ?_; rotate_left; (focus (intro w hSw; (try dsimp only at hSw); go_simp; try with_reducible rfl)); (try simp only [Act.put, List.setIfInBounds_toArray, List.set_cons_zero, List.set_cons_succ])
    refine wpAnyH_take (i := 7) (v := ?_) (by simp only [List.getElem?_toArray, List.getElem?_cons_zero, List.getElem?_cons_succ]; rfl) (by kernel_rfl) (by kernel_rfl) (by kernel_rfl) (by exact fun _ _ _ h => h) (Or.inl ⟨by rfl, ?_⟩) (by assumption) ?_; rotate_left; (focus (intro w hSw; (try dsimp only at hSw); go_simp; try with_reducible rfl)); (try simp only [Act.put, List.setIfInBounds_toArray, List.set_cons_zero, List.set_cons_succ])
    refine wpAnyH_take (i := 9) (v := ?_) (by simp only [List.getElem?_toArray, List.getElem?_cons_zero, List.getElem?_cons_succ]; rfl) (by kernel_rfl) (by kernel_rfl) (by kernel_rfl) (by exact fun _ _ _ h => h) (Or.inl ⟨by rfl, ?_⟩) (by assumption) ?_; rotate_left; (focus (intro w hSw; (try dsimp only at hSw); go_simp; try with_reducible rfl)); (try simp only [Act.put, List.setIfInBounds_toArray, List.set_cons_zero, List.set_cons_succ])
    refine wpAnyH_take (i := 10) (v := ?_) (by simp only [List.getElem?_toArray, List.getElem?_cons_zero, List.getElem?_cons_succ]; rfl) (by kernel_rfl) (by kernel_rfl) (by kernel_rfl) (by exact fun _ _ _ h => h) (Or.inl ⟨by rfl, ?_⟩) (by assumption) ?_; rotate_left; (focus (intro w hSw; (try dsimp only at hSw); go_simp; try with_reducible rfl)); (try simp only [Act.put, List.setIfInBounds_toArray, List.set_cons_zero, List.set_cons_succ])
    refine wpAnyH_take (i := 11) (v := ?_) (by simp only [List.getElem?_toArray, List.getElem?_cons_zero, List.getElem?_cons_succ]; rfl) (by kernel_rfl) (by kernel_rfl) (by kernel_rfl) (by exact fun _ _ _ h => h) (Or.inl ⟨by rfl, ?_⟩) (by assumption) ?_; rotate_left; (focus (intro w hSw; (try dsimp only at hSw); go_simp; try with_reducible rfl)); (try simp only [Act.put, List.setIfInBounds_toArray, List.set_cons_zero, List.set_cons_succ])
    refine wpAnyH_ready (rs := [2, 12]) (by kernel_rfl) (by simp) ?_
    refine AllReadyH.cons (by simp only [List.getElem?_toArray, List.getElem?_cons_zero, List.getElem?_cons_succ]; rfl) (fun K hK => ?_) ?_
    · go_simp
      go_at_call 39
      refine (rnum_any (w.heap.size + 1) _ [] e.seq (by (try simp [encT_len, encL_len, encW_len]) <;> omega) _ ho0 hz0).mono ?_
      rintro e w1 ⟨v1, rfl, ho1, hg1⟩
      have hb1 := hg1.ownB ho0 hz0
      have hS1 := EBox.keep hS0 hb1
      have hz1 := Nat.le_trans hz0 hb1.size
      have hP1 := hb1
      refine hK.out _ _ (hS1) ?_
      clear hHeld hK
      intro hHeld
      (try simp only [Act.put, List.setIfInBounds_toArray, List.set_cons_zero, List.set_cons_succ])
      refine wpAnyH_ready (rs := [5, 12]) (by kernel_rfl) (by simp) ?_
      refine AllReadyH.cons (by simp only [List.getElem?_toArray, List.getElem?_cons_zero, List.getElem?_cons_succ]; rfl) (fun K hK => ?_) ?_
      · go_simp
        go_at_call 38
        refine (rlab_any (w.heap.size + 1) _ ([] ++ encW e.seq) e.label (by (try simp [encT_len, encL_len, encW_len]) <;> omega) _ ho1 hz1).mono ?_
        rintro e w2 ⟨v2, rfl, ho2, hg2⟩
        have hb2 := hg2.ownB ho1 hz1
        have hS2 := EBox.keep hS1 hb2
        have hz2 := Nat.le_trans hz1 hb2.size
        have hP2 := hP1.trans hb2
        refine hK.out _ _ (hS2) ?_
        clear hHeld hK
        intro hHeld
        (try simp only [Act.put, List.setIfInBounds_toArray, List.set_cons_zero, List.set_cons_succ])
        refine wpAnyH_ready (rs := [8, 12]) (by kernel_rfl) (by simp) ?_
        refine AllReadyH.cons (by simp only [List.getElem?_toArray, List.getElem?_cons_zero, List.getElem?_cons_succ]; rfl) (fun K hK => ?_) ?_
        · go_simp
          go_at_call 37
          refine (rtext_any (w.heap.size + 1) _ (([] ++ encW e.seq) ++ encL e.label) e.user (by omega) (by (try simp [encT_len, encL_len, encW_len]) <;> omega) _ ho2 hz2).mono ?_
          rintro e w3 ⟨v3, rfl, ho3, hg3⟩
          have hb3 := hg3.ownB ho2 hz2
          have hS3 := EBox.keep hS2 hb3
          have hz3 := Nat.le_trans hz2 hb3.size
          have hP3 := hP2.trans hb3
          refine hK.out _ _ (hS3) ?_
          clear hHeld hK
          intro hHeld
          (try simp only [Act.put, List.setIfInBounds_toArray, List.set_cons_zero, List.set_cons_succ])
          refine wpAnyH_ready (rs := [12]) (by kernel_rfl) (by simp) ?_
          refine AllReadyH.cons (by simp only [List.getElem?_toArray, List.getElem?_cons_zero, List.getElem?_cons_succ]; rfl) (fun K hK => ?_) AllReadyH.nil
          go_simp
          refine hK.out _ _ (EBox.keep hS3 ((alloc_below _ _).mono hz3)) ?_
          clear hHeld hK
          intro hHeld
          have hbm := bytes_made w3 [lowB e.verb] #[.int .u8 ((lowB e.verb).toNat : Int)] rfl
          have hpn := ho3.apart
          have hpl : w3.heap.size < (w3.alloc (.cells #[.int .u8 ((lowB e.verb).toNat : Int)] 5)).heap.size := by rw [World.size_alloc]; exact Nat.lt_succ_self _
          have hb4 := (alloc_below w3 (.cells #[.int .u8 ((lowB e.verb).toNat : Int)] 5)).mono hz3
          have ho4 := ho3.below (alloc_below w3 (.cells #[.int .u8 ((lowB e.verb).toNat : Int)] 5))
          have hS4 := EBox.keep hS3 hb4
          have hz4 := Nat.le_trans hz3 hb4.size
          have hP4 := hP3.trans hb4
          generalize hw4 : w3.alloc (.cells #[.int .u8 ((lowB e.verb).toNat : Int)] 5) = w4 at *
          generalize hp : w3.heap.size = p at *
          rw [show ([lowB e.verb] : List UInt8).length = 1 from rfl] at hbm
          clear hw4 hp
          obtain ⟨vz, wz, hap, hoz, hgz⟩ := append_at w4 (w.heap.size + 1) _ ((([] ++ encW e.seq) ++ encL e.label) ++ encT e.user) ⟨p, 0, none⟩ 1 1 [lowB e.verb] hbm ho4 hz4 (by (try simp [encT_len, encL_len, encW_len]) <;> omega) (by omega)
          have hbz := hgz.ownB ho4 hz4
          have hSz := EBox.keep hS4 hbz
          have hzz := Nat.le_trans hz4 hbz.size
          have hB := hP4.trans hbz
          (try simp only [Act.put, List.setIfInBounds_toArray, List.set_cons_zero, List.set_cons_succ])
          refine wpAnyH_ready (rs := [13]) (by kernel_rfl) (by simp) ?_
          refine AllReadyH.cons (by simp only [List.getElem?_toArray, List.getElem?_cons_zero, List.getElem?_cons_succ]; rfl) (fun K hK => ?_) AllReadyH.nil
          refine step_append_u8 rfl _ _ rfl rfl rfl rfl hap ?_
          (try simp only [Act.put, List.setIfInBounds_toArray, List.set_cons_zero, List.set_cons_succ])
          refine hK.out _ _ (hSz) ?_
          clear hHeld hK
          intro hHeld
          (try simp only [Act.put, List.setIfInBounds_toArray, List.set_cons_zero, List.set_cons_succ])
          refine wpAnyH_take (i := 14) (v := ?_) (by simp only [List.getElem?_toArray, List.getElem?_cons_zero, List.getElem?_cons_succ]; rfl) (by kernel_rfl) (by kernel_rfl) (by kernel_rfl) (by exact fun _ _ _ h => h) (Or.inl ⟨by rfl, ?_⟩) (by assumption) ?_; rotate_left; (focus (intro w hSw; (try dsimp only at hSw); go_simp; try with_reducible rfl)); (try simp only [Act.put, List.setIfInBounds_toArray, List.set_cons_zero, List.set_cons_succ])
          refine wpAnyH_done (by kernel_rfl) ?_ _
          go_wp2_with fail
          go_meet
          exact ⟨_, rfl, hSz, hzz, by simpa using hoz, hB0.trans (hB.mono (Nat.le_succ _))⟩
        refine AllReadyH.cons (by simp only [List.getElem?_toArray, List.getElem?_cons_zero, List.getElem?_cons_succ]; rfl) (fun K hK => ?_) AllReadyH.nil
        go_simp
        refine hK.out _ _ (EBox.keep hS2 ((alloc_below _ _).mono hz2)) ?_
        clear hHeld hK
        intro hHeld
        have hbm := bytes_made w2 [lowB e.verb] #[.int .u8 ((lowB e.verb).toNat : Int)] rfl
        have hpn := ho2.apart
        have hpl : w2.heap.size < (w2.alloc (.cells #[.int .u8 ((lowB e.verb).toNat : Int)] 5)).heap.size := by rw [World.size_alloc]; exact Nat.lt_succ_self _
        have hb3 := (alloc_below w2 (.cells #[.int .u8 ((lowB e.verb).toNat : Int)] 5)).mono hz2
        have ho3 := ho2.below (alloc_below w2 (.cells #[.int .u8 ((lowB e.verb).toNat : Int)] 5))
        have hS3 := EBox.keep hS2 hb3
        have hz3 := Nat.le_trans hz2 hb3.size
        have hP3 := hP2.trans hb3
        generalize hw3 : w2.alloc (.cells #[.int .u8 ((lowB e.verb).toNat : Int)] 5) = w3 at *
        generalize hp : w2.heap.size = p at *
        rw [show ([lowB e.verb] : List UInt8).length = 1 from rfl] at hbm
        clear hw3 hp
        (try simp only [Act.put, List.setIfInBounds_toArray, List.set_cons_zero, List.set_cons_succ])
        refine wpAnyH_ready (rs := [8]) (by kernel_rfl) (by simp) ?_
        refine AllReadyH.cons (by simp only [List.getElem?_toArray, List.getElem?_cons_zero, List.getElem?_cons_succ]; rfl) (fun K hK => ?_) AllReadyH.nil
        go_simp
        go_at_call 37
        refine (rtext_any (w.heap.size + 1) _ (([] ++ encW e.seq) ++ encL e.label) e.user (by omega) (by (try simp [encT_len, encL_len, encW_len]) <;> omega) _ ho3 hz3).mono ?_
        rintro e w4 ⟨v3, rfl, ho4, hg4⟩
        have hb4 := hg4.ownB ho3 hz3
        have hS4 := EBox.keep hS3 hb4
        have hz4 := Nat.le_trans hz3 hb4.size
        have hP4 := hP3.trans hb4
        replace hbm := hbm.grew hg4 hpl hpn
        replace hpn := hg4.apart hpl hpn
        replace hpl := Nat.lt_of_lt_of_le hpl hg4.by_.size
        refine hK.out _ _ (hS4) ?_
        clear hHeld hK
        intro hHeld
        obtain ⟨vz, wz, hap, hoz, hgz⟩ := append_at w4 (w.heap.size + 1) _ ((([] ++ encW e.seq) ++ encL e.label) ++ encT e.user) ⟨p, 0, none⟩ 1 1 [lowB e.verb] hbm ho4 hz4 (by (try simp [encT_len, encL_len, encW_len]) <;> omega) (by omega)
        have hbz := hgz.ownB ho4 hz4
        have hSz := EBox.keep hS4 hbz
        have hzz := Nat.le_trans hz4 hbz.size
        have hB := hP4.trans hbz
        (try simp only [Act.put, List.setIfInBounds_toArray, List.set_cons_zero, List.set_cons_succ])
        refine wpAnyH_ready (rs := [13]) (by kernel_rfl) (by simp) ?_
        refine AllReadyH.cons (by simp only [List.getElem?_toArray, List.getElem?_cons_zero, List.getElem?_cons_succ]; rfl) (fun K hK => ?_) AllReadyH.nil
        refine step_append_u8 rfl _ _ rfl rfl rfl rfl hap ?_
        (try simp only [Act.put, List.setIfInBounds_toArray, List.set_cons_zero, List.set_cons_succ])
        refine hK.out _ _ (hSz) ?_
        clear hHeld hK
        intro hHeld
        (try simp only [Act.put, List.setIfInBounds_toArray, List.set_cons_zero, List.set_cons_succ])
        refine wpAnyH_take (i := 14) (v := ?_) (by simp only [List.getElem?_toArray, List.getElem?_cons_zero, List.getElem?_cons_succ]; rfl) (by kernel_rfl) (by kernel_rfl) (by kernel_rfl) (by exact fun _ _ _ h => h) (Or.inl ⟨by rfl, ?_⟩) (by assumption) ?_; rotate_left; (focus (intro w hSw; (try dsimp only at hSw); go_simp; try with_reducible rfl)); (try simp only [Act.put, List.setIfInBounds_toArray, List.set_cons_zero, List.set_cons_succ])
        refine wpAnyH_done (by kernel_rfl) ?_ _
        go_wp2_with fail
        go_meet
        exact ⟨_, rfl, hSz, hzz, by simpa using hoz, hB0.trans (hB.mono (Nat.le_succ _))⟩
      refine AllReadyH.cons (by simp only [List.getElem?_toArray, List.getElem?_cons_zero, List.getElem?_cons_succ]; rfl) (fun K hK => ?_) AllReadyH.nil
      go_simp
      refine hK.out _ _ (EBox.keep hS1 ((alloc_below _ _).mono hz1)) ?_
      clear hHeld hK
      intro hHeld
      have hbm := bytes_made w1 [lowB e.verb] #[.int .u8 ((lowB e.verb).toNat : Int)] rfl
      have hpn := ho1.apart
      have hpl : w1.heap.size < (w1.alloc (.cells #[.int .u8 ((lowB e.verb).toNat : Int)] 5)).heap.size := by rw [World.size_alloc]; exact Nat.lt_succ_self _
      have hb2 := (alloc_below w1 (.cells #[.int .u8 ((lowB e.verb).toNat : Int)] 5)).mono hz1
      have ho2 := ho1.below (alloc_below w1 (.cells #[.int .u8 ((lowB e.verb).toNat : Int)] 5))
      have hS2 := EBox.keep hS1 hb2
      have hz2 := Nat.le_trans hz1 hb2.size
      have hP2 := hP1.trans hb2
      generalize hw2 : w1.alloc (.cells #[.int .u8 ((lowB e.verb).toNat : Int)] 5) = w2 at *
      generalize hp : w1.heap.size = p at *
      rw [show ([lowB e.verb] : List UInt8).length = 1 from rfl] at hbm
      clear hw2 hp
      (try simp only [Act.put, List.setIfInBounds_toArray, List.set_cons_zero, List.set_cons_succ])
      refine wpAnyH_ready (rs := [5]) (by kernel_rfl) (by simp) ?_
      refine AllReadyH.cons (by simp only [List.getElem?_toArray, List.getElem?_cons_zero, List.getElem?_cons_succ]; rfl) (fun K hK => ?_) AllReadyH.nil
      go_simp
      go_at_call 38
      refine (rlab_any (w.heap.size + 1) _ ([] ++ encW e.seq) e.label (by (try simp [encT_len, encL_len, encW_len]) <;> omega) _ ho2 hz2).mono ?_
      rintro e w3 ⟨v2, rfl, ho3, hg3⟩
      have hb3 := hg3.ownB ho2 hz2
      have hS3 := EBox.keep hS2 hb3
      have hz3 := Nat.le_trans hz2 hb3.size
      have hP3 := hP2.trans hb3
      replace hbm := hbm.grew hg3 hpl hpn
      replace hpn := hg3.apart hpl hpn
      replace hpl := Nat.lt_of_lt_of_le hpl hg3.by_.size
      refine hK.out _ _ (hS3) ?_
      clear hHeld hK
      intro hHeld
      (try simp only [Act.put, List.setIfInBounds_toArray, List.set_cons_zero, List.set_cons_succ])
      refine wpAnyH_ready (rs := [8]) (by kernel_rfl) (by simp) ?_
      refine AllReadyH.cons (by simp only [List.getElem?_toArray, List.getElem?_cons_zero, List.getElem?_cons_succ]; rfl) (fun K hK => ?_) AllReadyH.nil
      go_simp
      go_at_call 37
      refine (rtext_any (w.heap.size + 1) _ (([] ++ encW e.seq) ++ encL e.label) e.user (by omega) (by (try simp [encT_len, encL_len, encW_len]) <;> omega) _ ho3 hz3).mono ?_
      rintro e w4 ⟨v3, rfl, ho4, hg4⟩
      have hb4 := hg4.ownB ho3 hz3
      have hS4 := EBox.keep hS3 hb4
      have hz4 := Nat.le_trans hz3 hb4.size
      have hP4 := hP3.trans hb4
      replace hbm := hbm.grew hg4 hpl hpn
      replace hpn := hg4.apart hpl hpn
      replace hpl := Nat.lt_of_lt_of_le hpl hg4.by_.size
      refine hK.out _ _ (hS4) ?_
      clear hHeld hK
      intro hHeld
      obtain ⟨vz, wz, hap, hoz, hgz⟩ := append_at w4 (w.heap.size + 1) _ ((([] ++ encW e.seq) ++ encL e.label) ++ encT e.user) ⟨p, 0, none⟩ 1 1 [lowB e.verb] hbm ho4 hz4 (by (try simp [encT_len, encL_len, encW_len]) <;> omega) (by omega)
      have hbz := hgz.ownB ho4 hz4
      have hSz := EBox.keep hS4 hbz
      have hzz := Nat.le_trans hz4 hbz.size
      have hB := hP4.trans hbz
      (try simp only [Act.put, List.setIfInBounds_toArray, List.set_cons_zero, List.set_cons_succ])
      refine wpAnyH_ready (rs := [13]) (by kernel_rfl) (by simp) ?_
      refine AllReadyH.cons (by simp only [List.getElem?_toArray, List.getElem?_cons_zero, List.getElem?_cons_succ]; rfl) (fun K hK => ?_) AllReadyH.nil
      refine step_append_u8 rfl _ _ rfl rfl rfl rfl hap ?_
      (try simp only [Act.put, List.setIfInBounds_toArray, List.set_cons_zero, List.set_cons_succ])
      refine hK.out _ _ (hSz) ?_
      clear hHeld hK
      intro hHeld
      (try simp only [Act.put, List.setIfInBounds_toArray, List.set_cons_zero, List.set_cons_succ])
      refine wpAnyH_take (i := 14) (v := ?_) (by simp only [List.getElem?_toArray, List.getElem?_cons_zero, List.getElem?_cons_succ]; rfl) (by kernel_rfl) (by kernel_rfl) (by kernel_rfl) (by exact fun _ _ _ h => h) (Or.inl ⟨by rfl, ?_⟩) (by assumption) ?_; rotate_left; (focus (intro w hSw; (try dsimp only at hSw); go_simp; try with_reducible rfl)); (try simp only [Act.put, List.setIfInBounds_toArray, List.set_cons_zero, List.set_cons_succ])
      refine wpAnyH_done (by kernel_rfl) ?_ _
      go_wp2_with fail
      go_meet
      exact ⟨_, rfl, hSz, hzz, by simpa using hoz, hB0.trans (hB.mono (Nat.le_succ _))⟩
    refine AllReadyH.cons (by simp only [List.getElem?_toArray, List.getElem?_cons_zero, List.getElem?_cons_succ]; rfl) (fun K hK => ?_) AllReadyH.nil
    go_simp
    refine hK.out _ _ (EBox.keep hS0 ((alloc_below _ _).mono hz0)) ?_
    clear hHeld hK
    intro hHeld
    have hbm := bytes_made w0 [lowB e.verb] #[.int .u8 ((lowB e.verb).toNat : Int)] rfl
    have hpn := ho0.apart
    have hpl : w0.heap.size < (w0.alloc (.cells #[.int .u8 ((lowB e.verb).toNat : Int)] 5)).heap.size := by rw [World.size_alloc]; exact Nat.lt_succ_self _
    have hb1 := (alloc_below w0 (.cells #[.int .u8 ((lowB e.verb).toNat : Int)] 5)).mono hz0
    have ho1 := ho0.below (alloc_below w0 (.cells #[.int .u8 ((lowB e.verb).toNat : Int)] 5))
    have hS1 := EBox.keep hS0 hb1
    have hz1 := Nat.le_trans hz0 hb1.size
    have hP1 := hb1
    generalize hw1 : w0.alloc (.cells #[.int .u8 ((lowB e.verb).toNat : Int)] 5) = w1 at *
    generalize hp : w0.heap.size = p at *
    rw [show ([lowB e.verb] : List UInt8).length = 1 from rfl] at hbm
    clear hw1 hp
    (try simp only [Act.put, List.setIfInBounds_toArray, List.set_cons_zero, List.set_cons_succ])
    refine wpAnyH_ready (rs := [2]) (by kernel_rfl) (by simp) ?_
    refine AllReadyH.cons (by simp only [List.getElem?_toArray, List.getElem?_cons_zero, List.getElem?_cons_succ]; rfl) (fun K hK => ?_) AllReadyH.nil
    go_simp
    go_at_call 39
    refine (rnum_any (w.heap.size + 1) _ [] e.seq (by (try simp [encT_len, encL_len, encW_len]) <;> omega) _ ho1 hz1).mono ?_
    rintro e w2 ⟨v1, rfl, ho2, hg2⟩
    have hb2 := hg2.ownB ho1 hz1
    have hS2 := EBox.keep hS1 hb2
    have hz2 := Nat.le_trans hz1 hb2.size
    have hP2 := hP1.trans hb2
    replace hbm := hbm.grew hg2 hpl hpn
    replace hpn := hg2.apart hpl hpn
    replace hpl := Nat.lt_of_lt_of_le hpl hg2.by_.size
    refine hK.out _ _ (hS2) ?_
    clear hHeld hK
    intro hHeld
    (try simp only [Act.put, List.setIfInBounds_toArray, List.set_cons_zero, List.set_cons_succ])
    refine wpAnyH_ready (rs := [5]) (by kernel_rfl) (by simp) ?_
    refine AllReadyH.cons (by simp only [List.getElem?_toArray, List.getElem?_cons_zero, List.getElem?_cons_succ]; rfl) (fun K hK => ?_) AllReadyH.nil
    go_simp
    go_at_call 38
    refine (rlab_any (w.heap.size + 1) _ ([] ++ encW e.seq) e.label (by (try simp [encT_len, encL_len, encW_len]) <;> omega) _ ho2 hz2).mono ?_
    rintro e w3 ⟨v2, rfl, ho3, hg3⟩
    have hb3 := hg3.ownB ho2 hz2
    have hS3 := EBox.keep hS2 hb3
    have hz3 := Nat.le_trans hz2 hb3.size
    have hP3 := hP2.trans hb3
    replace hbm := hbm.grew hg3 hpl hpn
    replace hpn := hg3.apart hpl hpn
    replace hpl := Nat.lt_of_lt_of_le hpl hg3.by_.size
    refine hK.out _ _ (hS3) ?_
    clear hHeld hK
    intro hHeld
    (try simp only [Act.put, List.setIfInBounds_toArray, List.set_cons_zero, List.set_cons_succ])
    refine wpAnyH_ready (rs := [8]) (by kernel_rfl) (by simp) ?_
    refine AllReadyH.cons (by simp only [List.getElem?_toArray, List.getElem?_cons_zero, List.getElem?_cons_succ]; rfl) (fun K hK => ?_) AllReadyH.nil
    go_simp
    go_at_call 37
    refine (rtext_any (w.heap.size + 1) _ (([] ++ encW e.seq) ++ encL e.label) e.user (by omega) (by (try simp [encT_len, encL_len, encW_len]) <;> omega) _ ho3 hz3).mono ?_
    rintro e w4 ⟨v3, rfl, ho4, hg4⟩
    have hb4 := hg4.ownB ho3 hz3
    have hS4 := EBox.keep hS3 hb4
    have hz4 := Nat.le_trans hz3 hb4.size
    have hP4 := hP3.trans hb4
    replace hbm := hbm.grew hg4 hpl hpn
    replace hpn := hg4.apart hpl hpn
    replace hpl := Nat.lt_of_lt_of_le hpl hg4.by_.size
    refine hK.out _ _ (hS4) ?_
    clear hHeld hK
    intro hHeld
    obtain ⟨vz, wz, hap, hoz, hgz⟩ := append_at w4 (w.heap.size + 1) _ ((([] ++ encW e.seq) ++ encL e.label) ++ encT e.user) ⟨p, 0, none⟩ 1 1 [lowB e.verb] hbm ho4 hz4 (by (try simp [encT_len, encL_len, encW_len]) <;> omega) (by omega)
    have hbz := hgz.ownB ho4 hz4
    have hSz := EBox.keep hS4 hbz
    have hzz := Nat.le_trans hz4 hbz.size
    have hB := hP4.trans hbz
    (try simp only [Act.put, List.setIfInBounds_toArray, List.set_cons_zero, List.set_cons_succ])
    refine wpAnyH_ready (rs := [13]) (by kernel_rfl) (by simp) ?_
    refine AllReadyH.cons (by simp only [List.getElem?_toArray, List.getElem?_cons_zero, List.getElem?_cons_succ]; rfl) (fun K hK => ?_) AllReadyH.nil
    refine step_append_u8 rfl _ _ rfl rfl rfl rfl hap ?_
    (try simp only [Act.put, List.setIfInBounds_toArray, List.set_cons_zero, List.set_cons_succ])
    refine hK.out _ _ (hSz) ?_
    clear hHeld hK
    intro hHeld
    (try simp only [Act.put, List.setIfInBounds_toArray, List.set_cons_zero, List.set_cons_succ])
    refine wpAnyH_take (i := 14) (v := ?_) (by simp only [List.getElem?_toArray, List.getElem?_cons_zero, List.getElem?_cons_succ]; rfl) (by kernel_rfl) (by kernel_rfl) (by kernel_rfl) (by exact fun _ _ _ h => h) (Or.inl ⟨by rfl, ?_⟩) (by assumption) ?_; rotate_left; (focus (intro w hSw; (try dsimp only at hSw); go_simp; try with_reducible rfl)); (try simp only [Act.put, List.setIfInBounds_toArray, List.set_cons_zero, List.set_cons_succ])
    refine wpAnyH_done (by kernel_rfl) ?_ _
    go_wp2_with fail
    go_meet
    exact ⟨_, rfl, hSz, hzz, by simpa using hoz, hB0.trans (hB.mono (Nat.le_succ _))⟩
  case rest =>
    clear hS hB0 hz
    obtain ⟨v, rfl, hS, hz, ho, hB0⟩ := hcut
    go_wp2_with fail
    have hS0 : EBox wc.drew w.heap.size e := hS
    replace hB0 : Below w.heap.size w wc.drew := hB0.drew
    have hz0 : w.heap.size + 1 ≤ wc.drew.heap.size := hz
    have ho0 := ho.below (Below.refl _ wc).drew
    clear hS hz ho
    refine wp_region_held_drew (S := (fun W => EBox W w.heap.size e)) (by kernel_rfl) (by exact hS0) ?_
    intro hHeld
    generalize wc.drew = w0 at *
    refine wpAnyH_take (i := 0) (v := ?_) (by simp only [List.getElem?_toArray, List.getElem?_cons_zero, List.getElem?_cons_succ]; rfl) (by kernel_rfl) (by kernel_rfl) (by kernel_rfl) (by exact fun _ _ _ h => h) (Or.inl ⟨by rfl, ?_⟩) (by assumption) ?_; rotate_left; (focus (intro w hSw; (try dsimp only at hSw); go_simp; try with_reducible rfl)); (try simp only [Act.put, List.setIfInBounds_toArray, List.set_cons_zero, List.set_cons_succ])
    refine wpAnyH_take (i := 1) (v := ?_) (by simp only [List.getElem?_toArray, List.getElem?_cons_zero, List.getElem?_cons_succ]; rfl) (by kernel_rfl) (by kernel_rfl) (by kernel_rfl) (by exact fun _ _ _ h => h) (Or.inl ⟨by rfl, ?_⟩) (by assumption) ?_; rotate_left; (focus (intro w hSw; (try dsimp only at hSw); go_simp; try with_reducible rfl)); (try simp only [Act.put, List.setIfInBounds_toArray, List.set_cons_zero, List.set_cons_succ])
    refine wpAnyH_take (i := 2) (v := ?_) (by simp only [List.getElem?_toArray, List.getElem?_cons_zero, List.getElem?_cons_succ]; rfl) (by kernel_rfl) (by kernel_rfl) (by kernel_rfl) (by exact fun _ _ _ h => h) (Or.inl ⟨by rfl, ?_⟩) (by assumption) ?_; rotate_left; (focus (intro w hSw; (try dsimp only at hSw); go_simp; try with_reducible rfl)); (try simp only [Act.put, List.setIfInBounds_toArray, List.set_cons_zero, List.set_cons_succ])
    refine wpAnyH_take (i := 4) (v := ?_) (by simp only [List.getElem?_toArray, List.getElem?_cons_zero, List.getElem?_cons_succ]; rfl) (by kernel_rfl) (by kernel_rfl) (by kernel_rfl) (by exact fun _ _ _ h => h) (Or.inl ⟨by rfl, ?_⟩) (by assumption) ?_; rotate_left; (focus (intro w hSw; (try dsimp only at hSw); go_simp; try with_reducible rfl)); (try simp only [Act.put, List.setIfInBounds_toArray, List.set_cons_zero, List.set_cons_succ])
    refine wpAnyH_take (i := 5) (v := ?_) (by simp only [List.getElem?_toArray, List.getElem?_cons_zero, List.getElem?_cons_succ]; rfl) (by kernel_rfl) (by kernel_rfl) (by kernel_rfl) (by exact fun _ _ _ h => h) (Or.inl ⟨by rfl, ?_⟩) (by assumption) ?_; rotate_left; (focus (intro w hSw; (try dsimp only at hSw); go_simp; try with_reducible rfl)); (try simp only [Act.put, List.setIfInBounds_toArray, List.set_cons_zero, List.set_cons_succ])
    refine wpAnyH_take (i := 6) (v := ?_) (by simp only [List.getElem?_toArray, List.getElem?_cons_zero, List.getElem?_cons_succ]; rfl) (by kernel_rfl) (by kernel_rfl) (by kernel_rfl) (by exact fun _ _ _ h => h) (Or.inl ⟨by rfl, ?_⟩) (by assumption) ?_; rotate_left; (focus (intro w hSw; (try dsimp only at hSw); go_simp; try with_reducible rfl)); (try simp only [Act.put, List.setIfInBounds_toArray, List.set_cons_zero, List.set_cons_succ])
    refine wpAnyH_ready (rs := [3, 7]) (by kernel_rfl) (by simp) ?_
    refine AllReadyH.cons (by simp only [List.getElem?_toArray, List.getElem?_cons_zero, List.getElem?_cons_succ]; rfl) (fun K hK => ?_) ?_
    · go_simp
      go_at_call 37
      refine (rtext_any (w.heap.size + 1) _ (encW e.seq ++ encL e.label ++ encT e.user ++ [lowB e.verb]) e.object (by omega) (by (try simp [encT_len, encL_len, encW_len]) <;> omega) _ ho0 hz0).mono ?_
      rintro e w1 ⟨v1, rfl, ho1, hg1⟩
      have hb1 := hg1.ownB ho0 hz0
      have hS1 := EBox.keep hS0 hb1
      have hz1 := Nat.le_trans hz0 hb1.size
      have hP1 := hb1
      refine hK.out _ _ (hS1) ?_
      clear hHeld hK
      intro hHeld
      (try simp only [Act.put, List.setIfInBounds_toArray, List.set_cons_zero, List.set_cons_succ])
      refine wpAnyH_ready (rs := [7]) (by kernel_rfl) (by simp) ?_
      refine AllReadyH.cons (by simp only [List.getElem?_toArray, List.getElem?_cons_zero, List.getElem?_cons_succ]; rfl) (fun K hK => ?_) AllReadyH.nil
      go_simp
      refine hK.out _ _ (EBox.keep hS1 ((alloc_below _ _).mono hz1)) ?_
      clear hHeld hK
      intro hHeld
      have hbm := bytes_made w1 [lowB e.verdict] #[.int .u8 ((lowB e.verdict).toNat : Int)] rfl
      have hpn := ho1.apart
      have hpl : w1.heap.size < (w1.alloc (.cells #[.int .u8 ((lowB e.verdict).toNat : Int)] 5)).heap.size := by rw [World.size_alloc]; exact Nat.lt_succ_self _
      have hb2 := (alloc_below w1 (.cells #[.int .u8 ((lowB e.verdict).toNat : Int)] 5)).mono hz1
      have ho2 := ho1.below (alloc_below w1 (.cells #[.int .u8 ((lowB e.verdict).toNat : Int)] 5))
      have hS2 := EBox.keep hS1 hb2
      have hz2 := Nat.le_trans hz1 hb2.size
      have hP2 := hP1.trans hb2
      generalize hw2 : w1.alloc (.cells #[.int .u8 ((lowB e.verdict).toNat : Int)] 5) = w2 at *
      generalize hp : w1.heap.size = p at *
      rw [show ([lowB e.verdict] : List UInt8).length = 1 from rfl] at hbm
      clear hw2 hp
      obtain ⟨vz, wz, hap, hoz, hgz⟩ := append_at w2 (w.heap.size + 1) _ ((encW e.seq ++ encL e.label ++ encT e.user ++ [lowB e.verb]) ++ encT e.object) ⟨p, 0, none⟩ 1 1 [lowB e.verdict] hbm ho2 hz2 (by (try simp [encT_len, encL_len, encW_len]) <;> omega) (by omega)
      have hbz := hgz.ownB ho2 hz2
      have hSz := EBox.keep hS2 hbz
      have hzz := Nat.le_trans hz2 hbz.size
      have hB := hP2.trans hbz
      (try simp only [Act.put, List.setIfInBounds_toArray, List.set_cons_zero, List.set_cons_succ])
      refine wpAnyH_ready (rs := [8]) (by kernel_rfl) (by simp) ?_
      refine AllReadyH.cons (by simp only [List.getElem?_toArray, List.getElem?_cons_zero, List.getElem?_cons_succ]; rfl) (fun K hK => ?_) AllReadyH.nil
      refine step_append_u8 rfl _ _ rfl rfl rfl rfl hap ?_
      (try simp only [Act.put, List.setIfInBounds_toArray, List.set_cons_zero, List.set_cons_succ])
      refine hK.out _ _ (hSz) ?_
      clear hHeld hK
      intro hHeld
      (try simp only [Act.put, List.setIfInBounds_toArray, List.set_cons_zero, List.set_cons_succ])
      refine wpAnyH_take (i := 9) (v := ?_) (by simp only [List.getElem?_toArray, List.getElem?_cons_zero, List.getElem?_cons_succ]; rfl) (by kernel_rfl) (by kernel_rfl) (by kernel_rfl) (by exact fun _ _ _ h => h) (Or.inl ⟨by rfl, ?_⟩) (by assumption) ?_; rotate_left; (focus (intro w hSw; (try dsimp only at hSw); go_simp; try with_reducible rfl)); (try simp only [Act.put, List.setIfInBounds_toArray, List.set_cons_zero, List.set_cons_succ])
      refine wpAnyH_done (by kernel_rfl) ?_ _
      go_wp2_with fail
      go_ret
      refine ⟨_, rfl, ?_, hB0.trans (hB.mono (Nat.le_succ _))⟩
      have := hoz.lower (Nat.le_succ w.heap.size)
      simpa [encE] using this
    refine AllReadyH.cons (by simp only [List.getElem?_toArray, List.getElem?_cons_zero, List.getElem?_cons_succ]; rfl) (fun K hK => ?_) AllReadyH.nil
    go_simp
    refine hK.out _ _ (EBox.keep hS0 ((alloc_below _ _).mono hz0)) ?_
    clear hHeld hK
    intro hHeld
    have hbm := bytes_made w0 [lowB e.verdict] #[.int .u8 ((lowB e.verdict).toNat : Int)] rfl
    have hpn := ho0.apart
    have hpl : w0.heap.size < (w0.alloc (.cells #[.int .u8 ((lowB e.verdict).toNat : Int)] 5)).heap.size := by rw [World.size_alloc]; exact Nat.lt_succ_self _
    have hb1 := (alloc_below w0 (.cells #[.int .u8 ((lowB e.verdict).toNat : Int)] 5)).mono hz0
    have ho1 := ho0.below (alloc_below w0 (.cells #[.int .u8 ((lowB e.verdict).toNat : Int)] 5))
    have hS1 := EBox.keep hS0 hb1
    have hz1 := Nat.le_trans hz0 hb1.size
    have hP1 := hb1
    generalize hw1 : w0.alloc (.cells #[.int .u8 ((lowB e.verdict).toNat : Int)] 5) = w1 at *
    generalize hp : w0.heap.size = p at *
    rw [show ([lowB e.verdict] : List UInt8).length = 1 from rfl] at hbm
    clear hw1 hp
    (try simp only [Act.put, List.setIfInBounds_toArray, List.set_cons_zero, List.set_cons_succ])
    refine wpAnyH_ready (rs := [3]) (by kernel_rfl) (by simp) ?_
    refine AllReadyH.cons (by simp only [List.getElem?_toArray, List.getElem?_cons_zero, List.getElem?_cons_succ]; rfl) (fun K hK => ?_) AllReadyH.nil
    go_simp
    go_at_call 37
    refine (rtext_any (w.heap.size + 1) _ (encW e.seq ++ encL e.label ++ encT e.user ++ [lowB e.verb]) e.object (by omega) (by (try simp [encT_len, encL_len, encW_len]) <;> omega) _ ho1 hz1).mono ?_
    rintro e w2 ⟨v1, rfl, ho2, hg2⟩
    have hb2 := hg2.ownB ho1 hz1
    have hS2 := EBox.keep hS1 hb2
    have hz2 := Nat.le_trans hz1 hb2.size
    have hP2 := hP1.trans hb2
    replace hbm := hbm.grew hg2 hpl hpn
    replace hpn := hg2.apart hpl hpn
    replace hpl := Nat.lt_of_lt_of_le hpl hg2.by_.size
    refine hK.out _ _ (hS2) ?_
    clear hHeld hK
    intro hHeld
    obtain ⟨vz, wz, hap, hoz, hgz⟩ := append_at w2 (w.heap.size + 1) _ ((encW e.seq ++ encL e.label ++ encT e.user ++ [lowB e.verb]) ++ encT e.object) ⟨p, 0, none⟩ 1 1 [lowB e.verdict] hbm ho2 hz2 (by (try simp [encT_len, encL_len, encW_len]) <;> omega) (by omega)
    have hbz := hgz.ownB ho2 hz2
    have hSz := EBox.keep hS2 hbz
    have hzz := Nat.le_trans hz2 hbz.size
    have hB := hP2.trans hbz
    (try simp only [Act.put, List.setIfInBounds_toArray, List.set_cons_zero, List.set_cons_succ])
    refine wpAnyH_ready (rs := [8]) (by kernel_rfl) (by simp) ?_
    refine AllReadyH.cons (by simp only [List.getElem?_toArray, List.getElem?_cons_zero, List.getElem?_cons_succ]; rfl) (fun K hK => ?_) AllReadyH.nil
    refine step_append_u8 rfl _ _ rfl rfl rfl rfl hap ?_
    (try simp only [Act.put, List.setIfInBounds_toArray, List.set_cons_zero, List.set_cons_succ])
    refine hK.out _ _ (hSz) ?_
    clear hHeld hK
    intro hHeld
    (try simp only [Act.put, List.setIfInBounds_toArray, List.set_cons_zero, List.set_cons_succ])
    refine wpAnyH_take (i := 9) (v := ?_) (by simp only [List.getElem?_toArray, List.getElem?_cons_zero, List.getElem?_cons_succ]; rfl) (by kernel_rfl) (by kernel_rfl) (by kernel_rfl) (by exact fun _ _ _ h => h) (Or.inl ⟨by rfl, ?_⟩) (by assumption) ?_; rotate_left; (focus (intro w hSw; (try dsimp only at hSw); go_simp; try with_reducible rfl)); (try simp only [Act.put, List.setIfInBounds_toArray, List.set_cons_zero, List.set_cons_succ])
    refine wpAnyH_done (by kernel_rfl) ?_ _
    go_wp2_with fail
    go_ret
    refine ⟨_, rfl, ?_, hB0.trans (hB.mono (Nat.le_succ _))⟩
    have := hoz.lower (Nat.le_succ w.heap.size)
    simpa [encE] using this
end Go.Proofs.Ytecleampjeebaaa
