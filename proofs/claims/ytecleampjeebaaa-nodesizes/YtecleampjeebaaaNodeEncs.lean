/-
  PACKAGE node AS IT LANDED: Encode, EncodeMessage, EncodeEntry.
-/
import Derived.Test.YtecleampjeebaaaNodeAdd
namespace Go.Proofs.Ytecleampjeebaaa
open Go.RowKit
set_option linter.unusedSimpArgs false
set_option linter.unusedVariables false

set_option maxHeartbeats 4000000 in
theorem addGrants_any (base : Nat) (v : Value) (l : List UInt8) (gs : List Gr) (aa : Option Addr) (ca : Nat) (hl : l.length < 300000) (hn : gs.length < 300) (hu : ∀ q ∈ gs, q.u.size < 1000) (w : World) (hown : OwnB w base v l) (hb : base ≤ w.heap.size) (hG : ∀ W, Below base w W → GrsAt W aa gs) :
    Calls Try.prog 33 #[v, .slice aa gs.length ca] w fun e w' => ∃ v', e = .returned v' ∧ OwnB w' base v' (l ++ (lowB (gs.length : Int) :: gs.flatMap encG)) ∧ Below base w w' := by
  have hwr := wrap_u8 (gs.length : Int)
  obtain ⟨v1, W1, ha1, ho1, hB1⟩ := append_made w base v l [lowB (gs.length : Int)] #[.int .u8 ((lowB (gs.length : Int)).toNat : Int)] rfl hown hb (by omega) (by simp)
  have hb1 := hB1.ownB hown hb
  rw [show ([lowB (gs.length : Int)] : List UInt8).length = 1 from rfl] at ha1
  go_enter Try.func33, Try.ntmps33
  go_wp2_with (first | (refine wpList_append_u8 rfl _ _ rfl rfl rfl rfl ha1 ?_) | fail)
  clear ha1 hB1
  go_loopw [0, 15] (fun t0 t15 wr => ∃ i : Nat, i ≤ gs.length ∧ t15 = .int .i64 (i : Int) ∧ OwnB wr base t0 (l ++ (lowB (gs.length : Int) :: (gs.take i).flatMap encG)) ∧ Below base w wr) (fun _ t15 _ => gs.length - (Go.RowKit.intOf t15).toNat)
  case atStart => exact ⟨0, by omega, rfl, by simpa using ho1, hb1⟩
  case round =>
    clear ho1 hb1
    obtain ⟨i, hi, rfl, ho, hB⟩ := hrel
    have hz := Nat.le_trans hb hB.size
    have hFL : ((gs.take i).flatMap encG).length ≤ (gs.take i).length * 1001 := flat_len encG 1001 _ fun q hq => by
      have := hu q (List.mem_of_mem_take hq)
      simp [encG, encT_len]
      omega
    rw [List.length_take] at hFL
    have hLL : (l ++ (lowB (gs.length : Int) :: (gs.take i).flatMap encG)).length < 700000 := by rw [List.length_append, List.length_cons]; omega
    by_cases hlt : i < gs.length
    · obtain ⟨q, hq⟩ : ∃ q, gs[i]? = some q := ⟨_, List.getElem?_eq_getElem hlt⟩
      have hqu := hu q (List.mem_of_getElem? hq)
      obtain ⟨y, rfl, hc1, hc2⟩ := hG wr hB i q hq
      have hnx := flat_take encG gs hq
      have wm := wrap_u8 q.m
      obtain ⟨L, hLe⟩ : ∃ L, L = l ++ (lowB (gs.length : Int) :: (gs.take i).flatMap encG) := ⟨_, rfl⟩
      have hN : l ++ (lowB (gs.length : Int) :: (gs.take (i + 1)).flatMap encG) = (L ++ encT q.u) ++ [lowB q.m] := by rw [hnx, hLe]; simp [encG]
      rw [← hLe] at ho hLL
      clear hFL hu hnx hLe
      have ho2 := ho.below (alloc_below wr (.cells #[.string q.u, .int .i64 q.m] 60))
      have hB2 : Below base w (wr.alloc (.cells #[.string q.u, .int .i64 q.m] 60)) := hB.alloc hz _
      have hz2 := Nat.le_trans hb hB2.size
      have hk := blk_alloc wr #[.string q.u, .int .i64 q.m] 60
      have hap := OwnB.apart ho
      go_wp2_with fail
      obtain ⟨W2, hW2⟩ : ∃ W2, wr.alloc (.cells #[.string q.u, .int .i64 q.m] 60) = W2 := ⟨_, rfl⟩
      have hlt2 : wr.heap.size < W2.heap.size := by rw [← hW2]; simp
      rw [hW2] at ho2 hB2 hz2 hk
      try rw [hW2]
      refine (addText_any base _ L q.u (by omega) (by omega) W2 ho2 hz2).mono ?_
      rintro e W3 ⟨v3, rfl, ho3, hg3⟩
      have hb3 := hg3.ownB ho2 hz2
      have hz3 := Nat.le_trans hz2 hb3.size
      have d1 : W3.cell? ⟨wr.heap.size, 1, none⟩ = some (.int .i64 q.m) := by
        rw [hg3.cell (a := ⟨wr.heap.size, 1, none⟩) hlt2 hap]
        exact (hk 1 _ rfl).1
      obtain ⟨v4, W4, ha4, ho4, hg4⟩ := append_made W3 base v3 (L ++ encT q.u) [lowB q.m] #[.int .u8 ((lowB q.m).toNat : Int)] rfl ho3 hz3 (by simp [encT_len]; omega) (by simp)
      have hb4 := hg4.ownB ho3 hz3
      rw [show ([lowB q.m] : List UInt8).length = 1 from rfl] at ha4
      rw [← hN] at ho4
      clear hk hc1 hc2
      go_wp2_with (first | (refine wpList_append_u8 rfl _ _ rfl rfl rfl rfl ha4 ?_) | fail)
      exact ⟨⟨i + 1, by omega, by simp, ho4, (hB2.trans hb3).trans hb4⟩, by simp [Go.RowKit.intOf]; omega⟩
    · obtain rfl : i = gs.length := by omega
      rw [List.take_length] at ho
      go_wp2_with fail
      go_ret
      exact ⟨_, rfl, ho, hB⟩
set_option maxHeartbeats 4000000 in
theorem addWords_any (base : Nat) (v : Value) (l : List UInt8) (ws : List Int) (wa : Option Addr) (cw : Nat) (hl : l.length < 700000) (hn : ws.length < 1000) (w : World) (hown : OwnB w base v l) (hb : base ≤ w.heap.size) (hW : ∀ W, Below base w W → WrdsAt W wa ws) :
    Calls Try.prog 34 #[v, .slice wa ws.length cw] w fun e w' => ∃ v', e = .returned v' ∧ OwnB w' base v' (l ++ (lowB (ws.length : Int) :: ws.flatMap encW)) ∧ Below base w w' := by
  have hwr := wrap_u8 (ws.length : Int)
  obtain ⟨v1, W1, ha1, ho1, hB1⟩ := append_made w base v l [lowB (ws.length : Int)] #[.int .u8 ((lowB (ws.length : Int)).toNat : Int)] rfl hown hb (by omega) (by simp)
  have hb1 := hB1.ownB hown hb
  rw [show ([lowB (ws.length : Int)] : List UInt8).length = 1 from rfl] at ha1
  go_enter Try.func34, Try.ntmps34
  go_wp2_with (first | (refine wpList_append_u8 rfl _ _ rfl rfl rfl rfl ha1 ?_) | fail)
  clear ha1 hB1
  go_loopw [0, 15] (fun t0 t15 wr => ∃ i : Nat, i ≤ ws.length ∧ t15 = .int .i64 (i : Int) ∧ OwnB wr base t0 (l ++ (lowB (ws.length : Int) :: (ws.take i).flatMap encW)) ∧ Below base w wr) (fun _ t15 _ => ws.length - (Go.RowKit.intOf t15).toNat)
  case atStart => exact ⟨0, by omega, rfl, by simpa using ho1, hb1⟩
  case round =>
    clear ho1 hb1
    obtain ⟨i, hi, rfl, ho, hB⟩ := hrel
    have hz := Nat.le_trans hb hB.size
    have hFL : ((ws.take i).flatMap encW).length ≤ (ws.take i).length * 8 := flat_len encW 8 _ fun q hq => by rw [encW_len]; exact Nat.le_refl _
    rw [List.length_take] at hFL
    have hLL : (l ++ (lowB (ws.length : Int) :: (ws.take i).flatMap encW)).length < 800000 := by rw [List.length_append, List.length_cons]; omega
    by_cases hlt : i < ws.length
    · obtain ⟨q, hq⟩ : ∃ q, ws[i]? = some q := ⟨_, List.getElem?_eq_getElem hlt⟩
      obtain ⟨y, rfl, hc1⟩ := hW wr hB i q hq
      have hnx := flat_take encW ws hq
      have hN : l ++ (lowB (ws.length : Int) :: (ws.take (i + 1)).flatMap encW) = (l ++ (lowB (ws.length : Int) :: (ws.take i).flatMap encW)) ++ encW q := by rw [hnx]; simp
      go_wp2_with fail
      refine (addEight_any base _ _ q (by omega) _ ho hz).mono ?_
      rintro r W5 ⟨v5, rfl, ho5, hg5⟩
      have hb5 := hg5.ownB ho hz
      rw [← hN] at ho5
      go_wp2_with fail
      exact ⟨⟨i + 1, by omega, by simp, ho5, hB.trans hb5⟩, by simp [Go.RowKit.intOf]; omega⟩
    · obtain rfl : i = ws.length := by omega
      rw [List.take_length] at ho
      go_wp2_with fail
      go_ret
      exact ⟨_, rfl, ho, hB⟩
set_option maxHeartbeats 4000000 in
theorem nencM_any (m : Msg) (hm : m.Plain) (w : World) :
    Calls Try.prog 21 #[m.v] w fun e w' => ∃ v', e = .returned v' ∧ OwnB w' w.heap.size v' (encM m) ∧ Below w.heap.size w w' := by
  have hf := hm.f
  have ht := hm.t
  have hx := hm.x
  have hS : MBox (w.alloc (.cells (mcells m) 42)) w.heap.size m := mbox_alloc w m _
  have hB : Below w.heap.size w (w.alloc (.cells (mcells m) 42)) := alloc_below _ _
  have hz : (w.alloc (.cells (mcells m) 42)).heap.size = w.heap.size + 1 := World.size_alloc _ _
  unfold mcells at hS hB hz
  go_enter Try.func21, Try.ntmps21
  go_wp2_with fail
  generalize w.alloc (.cells #[.string m.from_, .int .i64 m.label.s, .int .i64 m.label.c, .int .i64 m.label.i, .int .i64 m.label.k, .string m.to_, .int .i64 m.box.s, .int .i64 m.box.c, .int .i64 m.box.i, .int .i64 m.box.k, .string m.text] 42) = W at *
  have hz0 : w.heap.size + 1 ≤ W.heap.size := by omega
  have ho0 : OwnB W (w.heap.size + 1) (.slice none 0 0) [] := ownB_nil _ _
  refine (addText_any (w.heap.size + 1) _ [] m.from_ (by omega) (by simp) _ ho0 hz0).mono ?_
  rintro e W1 ⟨v1, rfl, ho1, hg1⟩
  have hb1 := hg1.ownB ho0 hz0
  have hS1 := hS.keep hb1
  have hz1 := Nat.le_trans hz0 hb1.size
  clear hS
  go_wp2_with fail
  refine (addLabel_any (w.heap.size + 1) _ ([] ++ encT m.from_) m.label (by simp [encT_len]; omega) _ ho1 hz1).mono ?_
  rintro e W2 ⟨v2, rfl, ho2, hg2⟩
  have hb2 := hg2.ownB ho1 hz1
  have hS2 := hS1.keep hb2
  have hz2 := Nat.le_trans hz1 hb2.size
  clear hS1
  go_wp2_with fail
  refine (addText_any (w.heap.size + 1) _ (([] ++ encT m.from_) ++ encL m.label) m.to_ (by omega) (by simp [encT_len, encL_len]; omega) _ ho2 hz2).mono ?_
  rintro e W3 ⟨v3, rfl, ho3, hg3⟩
  have hb3 := hg3.ownB ho2 hz2
  have hS3 := hS2.keep hb3
  have hz3 := Nat.le_trans hz2 hb3.size
  clear hS2
  go_wp2_with fail
  refine (addLabel_any (w.heap.size + 1) _ ((([] ++ encT m.from_) ++ encL m.label) ++ encT m.to_) m.box (by simp [encT_len, encL_len]; omega) _ ho3 hz3).mono ?_
  rintro e W4 ⟨v4, rfl, ho4, hg4⟩
  have hb4 := hg4.ownB ho3 hz3
  have hS4 := hS3.keep hb4
  have hz4 := Nat.le_trans hz3 hb4.size
  clear hS3
  go_wp2_with fail
  refine (addText_any (w.heap.size + 1) _ (((([] ++ encT m.from_) ++ encL m.label) ++ encT m.to_) ++ encL m.box) m.text (by omega) (by simp [encT_len, encL_len]; omega) _ ho4 hz4).mono ?_
  rintro e W5 ⟨v5, rfl, ho5, hg5⟩
  have hb5 := hg5.ownB ho4 hz4
  clear hS4
  go_wp2_with fail
  go_ret
  refine ⟨_, rfl, ?_, ?_⟩
  · have := ho5.lower (Nat.le_succ w.heap.size)
    simpa [encM] using this
  · exact hB.trans ((((hb1.trans hb2).trans hb3).trans hb4).trans hb5 |>.mono (Nat.le_succ _))
set_option maxHeartbeats 4000000 in
theorem nencE_any (x : Ent) (hm : x.Plain) (w : World) :
    Calls Try.prog 22 #[x.v] w fun e w' => ∃ v', e = .returned v' ∧ OwnB w' w.heap.size v' (encE x) ∧ Below w.heap.size w w' := by
  have hu := hm.u
  have hj := hm.o
  have hS : EBox (w.alloc (.cells (ecells x) 48)) w.heap.size x := ebox_alloc w x _
  have hB : Below w.heap.size w (w.alloc (.cells (ecells x) 48)) := alloc_below _ _
  have hz : (w.alloc (.cells (ecells x) 48)).heap.size = w.heap.size + 1 := World.size_alloc _ _
  have wv := wrap_u8 x.verb
  have wd := wrap_u8 x.verdict
  unfold ecells at hS hB hz
  go_enter Try.func22, Try.ntmps22
  go_wp2_with fail
  generalize w.alloc (.cells #[.int .i64 x.seq, .int .i64 x.label.s, .int .i64 x.label.c, .int .i64 x.label.i, .int .i64 x.label.k, .string x.user, .int .i64 x.verb, .string x.object, .int .i64 x.verdict] 48) = W at *
  have hz0 : w.heap.size + 1 ≤ W.heap.size := by omega
  have ho0 : OwnB W (w.heap.size + 1) (.slice none 0 0) [] := ownB_nil _ _
  refine (addEight_any (w.heap.size + 1) _ [] x.seq (by simp) _ ho0 hz0).mono ?_
  rintro e W1 ⟨v1, rfl, ho1, hg1⟩
  have hb1 := hg1.ownB ho0 hz0
  have hS1 := hS.keep hb1
  have hz1 := Nat.le_trans hz0 hb1.size
  clear hS
  go_wp2_with fail
  refine (addLabel_any (w.heap.size + 1) _ ([] ++ encW x.seq) x.label (by simp [encW_len]) _ ho1 hz1).mono ?_
  rintro e W2 ⟨v2, rfl, ho2, hg2⟩
  have hb2 := hg2.ownB ho1 hz1
  have hS2 := hS1.keep hb2
  have hz2 := Nat.le_trans hz1 hb2.size
  clear hS1
  go_wp2_with fail
  refine (addText_any (w.heap.size + 1) _ (([] ++ encW x.seq) ++ encL x.label) x.user (by omega) (by simp [encW_len, encL_len]) _ ho2 hz2).mono ?_
  rintro e W3 ⟨v3, rfl, ho3, hg3⟩
  have hb3 := hg3.ownB ho2 hz2
  have hS3 := hS2.keep hb3
  have hz3 := Nat.le_trans hz2 hb3.size
  clear hS2
  obtain ⟨v4, W4, ha4, ho4, hg4⟩ := append_made W3 (w.heap.size + 1) v3 ((([] ++ encW x.seq) ++ encL x.label) ++ encT x.user) [lowB x.verb] #[.int .u8 ((lowB x.verb).toNat : Int)] rfl ho3 hz3 (by simp [encT_len, encW_len, encL_len]; omega) (by simp)
  have hb4 := hg4.ownB ho3 hz3
  have hS4 := hS3.keep hb4
  have hz4 := Nat.le_trans hz3 hb4.size
  rw [show ([lowB x.verb] : List UInt8).length = 1 from rfl] at ha4
  go_wp2_with (first | (refine wpList_append_u8 rfl _ _ rfl rfl rfl rfl ha4 ?_) | fail)
  clear hS3 ha4
  refine (addText_any (w.heap.size + 1) _ (((([] ++ encW x.seq) ++ encL x.label) ++ encT x.user) ++ [lowB x.verb]) x.object (by omega) (by simp [encT_len, encW_len, encL_len]; omega) _ ho4 hz4).mono ?_
  rintro e W5 ⟨v5, rfl, ho5, hg5⟩
  have hb5 := hg5.ownB ho4 hz4
  have hS5 := hS4.keep hb5
  have hz5 := Nat.le_trans hz4 hb5.size
  clear hS4
  obtain ⟨v6, W6, ha6, ho6, hg6⟩ := append_made W5 (w.heap.size + 1) v5 ((((([] ++ encW x.seq) ++ encL x.label) ++ encT x.user) ++ [lowB x.verb]) ++ encT x.object) [lowB x.verdict] #[.int .u8 ((lowB x.verdict).toNat : Int)] rfl ho5 hz5 (by simp [encT_len, encW_len, encL_len]; omega) (by simp)
  have hb6 := hg6.ownB ho5 hz5
  rw [show ([lowB x.verdict] : List UInt8).length = 1 from rfl] at ha6
  go_wp2_with (first | (refine wpList_append_u8 rfl _ _ rfl rfl rfl rfl ha6 ?_) | fail)
  go_ret
  refine ⟨_, rfl, ?_, ?_⟩
  · have := ho6.lower (Nat.le_succ w.heap.size)
    simpa [encE] using this
  · exact hB.trans (((((hb1.trans hb2).trans hb3).trans hb4).trans hb5).trans hb6 |>.mono (Nat.le_succ _))
set_option maxHeartbeats 8000000 in
theorem nencN_any (n : Nod) (aa : Option Addr) (ca : Nat) (wa : Option Addr) (cw : Nat) (hm : n.Plain) (w : World) (hG : GrsAt w aa n.acl) (hW : WrdsAt w wa n.words) :
    Calls Try.prog 13 #[n.v aa ca wa cw] w fun r w' => ∃ v', r = .returned v' ∧ OwnB w' w.heap.size v' (encN n) ∧ Below w.heap.size w w' := by
  have hp := hm.p
  have ha := hm.a
  have hw := hm.w
  have hg := hm.g
  have hS : NBox (w.alloc (.cells (ncells n aa ca wa cw) 29)) w.heap.size n aa ca wa cw := nbox_alloc w n aa ca wa cw _
  have hB : Below w.heap.size w (w.alloc (.cells (ncells n aa ca wa cw) 29)) := alloc_below _ _
  have hz : (w.alloc (.cells (ncells n aa ca wa cw) 29)).heap.size = w.heap.size + 1 := World.size_alloc _ _
  have wr1 := wrap_u8 n.r1
  have wr2 := wrap_u8 n.r2
  have wr3 := wrap_u8 n.r3
  have wr4 := wrap_u8 n.gates
  unfold ncells at hS hB hz
  go_enter Try.func13, Try.ntmps13
  go_wp2_with fail
  generalize w.alloc (.cells #[.string n.path, .bool n.dir, .int .i64 n.label.s, .int .i64 n.label.c, .int .i64 n.label.i, .int .i64 n.label.k, .slice aa n.acl.length ca, .int .i64 n.r1, .int .i64 n.r2, .int .i64 n.r3, .int .i64 n.gates, .slice wa n.words.length cw, .int .i64 n.by_.s, .int .i64 n.by_.c, .int .i64 n.by_.i, .int .i64 n.by_.k] 29) = W at *
  have hz0 : w.heap.size + 1 ≤ W.heap.size := by omega
  have ho0 : OwnB W (w.heap.size + 1) (.slice none 0 0) [] := ownB_nil _ _
  refine (addText_any (w.heap.size + 1) _ [] n.path (by omega) (by simp) _ ho0 hz0).mono ?_
  rintro e W1 ⟨v1, rfl, ho1, hg1⟩
  have hb1 := hg1.ownB ho0 hz0
  have hS1 := hS.keep hb1
  have hz1 := Nat.le_trans hz0 hb1.size
  have hB1 := hB.trans (hb1.mono (Nat.le_succ _))
  clear hS hB hb1 hg1 ho0 hz0 hz
  go_wp2_with fail
  refine (addDir_any (w.heap.size + 1) _ ([] ++ encT n.path) n.dir (by simp [encT_len]; omega) _ ho1 hz1).mono ?_
  rintro e W2 ⟨v2, rfl, ho2, hg2⟩
  have hb2 := hg2.ownB ho1 hz1
  have hS2 := hS1.keep hb2
  have hz2 := Nat.le_trans hz1 hb2.size
  have hB2 := hB1.trans (hb2.mono (Nat.le_succ _))
  clear hS1 hB1 hb2 hg2 ho1 hz1
  go_wp2_with fail
  refine (addLabel_any (w.heap.size + 1) _ (([] ++ encT n.path) ++ [dirB n.dir]) n.label (by simp [encT_len]; omega) _ ho2 hz2).mono ?_
  rintro e W3 ⟨v3, rfl, ho3, hg3⟩
  have hb3 := hg3.ownB ho2 hz2
  have hS3 := hS2.keep hb3
  have hz3 := Nat.le_trans hz2 hb3.size
  have hB3 := hB2.trans (hb3.mono (Nat.le_succ _))
  clear hS2 hB2 hb3 hg3 ho2 hz2
  go_wp2_with fail
  refine (addLabel_any (w.heap.size + 1) _ ((([] ++ encT n.path) ++ [dirB n.dir]) ++ encL n.label) n.by_ (by simp [encT_len, encL_len]; omega) _ ho3 hz3).mono ?_
  rintro e W4 ⟨v4, rfl, ho4, hg4⟩
  have hb4 := hg4.ownB ho3 hz3
  have hS4 := hS3.keep hb4
  have hz4 := Nat.le_trans hz3 hb4.size
  have hB4 := hB3.trans (hb4.mono (Nat.le_succ _))
  clear hS3 hB3 hb4 hg4 ho3 hz3
  go_wp2_with fail
  refine (addGrants_any (w.heap.size + 1) _ (((([] ++ encT n.path) ++ [dirB n.dir]) ++ encL n.label) ++ encL n.by_) n.acl aa ca (by simp [encT_len, encL_len]; omega) (by omega) (fun q hq => by have := (hg q hq).1; omega) W4 ho4 hz4 (fun W b => hG.below (hB4.trans (b.mono (Nat.le_succ _))))).mono ?_
  rintro e W5 ⟨v5, rfl, ho5, hb5⟩
  have hS5 := hS4.keep hb5
  have hz5 := Nat.le_trans hz4 hb5.size
  have hB5 := hB4.trans (hb5.mono (Nat.le_succ _))
  have hFL : (n.acl.flatMap encG).length ≤ n.acl.length * 1001 := flat_len encG 1001 _ fun q hq => by
    have := (hg q hq).1
    simp [encG, encT_len]
    omega
  obtain ⟨L, hLe⟩ : ∃ L, L = (((([] ++ encT n.path) ++ [dirB n.dir]) ++ encL n.label) ++ encL n.by_) ++ (lowB (n.acl.length : Int) :: n.acl.flatMap encG) := ⟨_, rfl⟩
  have hLL : L.length < 300000 := by rw [hLe]; simp only [List.length_append, List.length_cons, List.length_nil, encT_len, encL_len]; omega
  rw [← hLe] at ho5
  clear hS4 hB4 hb5 ho4 hz4
  obtain ⟨v6, W6, ha6, ho6, hg6⟩ := append_made W5 (w.heap.size + 1) v5 L [lowB n.r1, lowB n.r2, lowB n.r3, lowB n.gates] #[.int .u8 ((lowB n.r1).toNat : Int), .int .u8 ((lowB n.r2).toNat : Int), .int .u8 ((lowB n.r3).toNat : Int), .int .u8 ((lowB n.gates).toNat : Int)] rfl ho5 hz5 (by omega) (by simp)
  have hb6 := hg6.ownB ho5 hz5
  have hS6 := hS5.keep hb6
  have hB6 := hB5.trans (hb6.mono (Nat.le_succ _))
  have hz6 := Nat.le_trans hz5 hb6.size
  rw [show ([lowB n.r1, lowB n.r2, lowB n.r3, lowB n.gates] : List UInt8).length = 4 from rfl] at ha6
  go_wp2_with (first | (refine wpList_append_u8 rfl _ _ rfl rfl rfl rfl ha6 ?_) | fail)
  clear hS5 hB5 hb6 ho5 hz5 ha6 hg6
  refine (addWords_any (w.heap.size + 1) _ (L ++ [lowB n.r1, lowB n.r2, lowB n.r3, lowB n.gates]) n.words wa cw (by simp; omega) (by omega) W6 ho6 hz6 (fun W b => hW.below (hB6.trans (b.mono (Nat.le_succ _))))).mono ?_
  rintro e W7 ⟨v7, rfl, ho7, hb7⟩
  have hB7 := hB6.trans (hb7.mono (Nat.le_succ _))
  clear hS6
  go_wp2_with fail
  go_ret
  refine ⟨_, rfl, ?_, hB7⟩
  have := ho7.lower (Nat.le_succ w.heap.size)
  have he : encN n = (L ++ [lowB n.r1, lowB n.r2, lowB n.r3, lowB n.gates]) ++ (lowB (n.words.length : Int) :: n.words.flatMap encW) := by
    rw [hLe]
    simp [encN]
  rw [he]
  exact this
end Go.Proofs.Ytecleampjeebaaa
