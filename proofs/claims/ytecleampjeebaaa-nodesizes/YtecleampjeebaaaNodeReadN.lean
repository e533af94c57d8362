/-
  PACKAGE node AS IT LANDED: its reader's node. Written by mk_nread.py.
-/
import Derived.Test.YtecleampjeebaaaNodeSt2
namespace Go.Proofs.Ytecleampjeebaaa
open Go.RowKit
set_option linter.unusedSimpArgs false
set_option linter.unusedVariables false

set_option maxRecDepth 8000 in
set_option maxHeartbeats 8000000 in
theorem node_any (g B : Nat) (l : List UInt8) (w : World) (h : RdN w g B l 0) :
    Calls Try.prog 36 #[.pointer (some ⟨g, 0, none⟩)] w (Got g B l w (nodR12 l) fun v w' => ∃ va vw, v = (nodV l).vv va vw ∧ OwnG w' w.heap.size va (nodV l).acl ∧ OwnW w' w.heap.size vw (nodV l).words) := by
  have hgB := h.lt
  have st0 : St2 w ((w.alloc (.cells #[.string ⟨#[]⟩, .bool false, .int .i64 0, .int .i64 0, .int .i64 0, .int .i64 0, .slice none 0 0, .int .i64 0, .int .i64 0, .int .i64 0, .int .i64 0, .slice none 0 0, .int .i64 0, .int .i64 0, .int .i64 0, .int .i64 0] 29)).alloc (.cells #[.string ⟨#[]⟩, .bool false, .int .i64 0, .int .i64 0, .int .i64 0, .int .i64 0, .slice none 0 0, .int .i64 0, .int .i64 0, .int .i64 0, .int .i64 0, .slice none 0 0, .int .i64 0, .int .i64 0, .int .i64 0, .int .i64 0] 29)) g B l (nodR0 l).p [.string ⟨#[]⟩, .bool false, .int .i64 0, .int .i64 0, .int .i64 0, .int .i64 0, .slice none 0 0, .int .i64 0, .int .i64 0, .int .i64 0, .int .i64 0, .slice none 0 0, .int .i64 0, .int .i64 0, .int .i64 0, .int .i64 0] [.string ⟨#[]⟩, .bool false, .int .i64 0, .int .i64 0, .int .i64 0, .int .i64 0, .slice none 0 0, .int .i64 0, .int .i64 0, .int .i64 0, .int .i64 0, .slice none 0 0, .int .i64 0, .int .i64 0, .int .i64 0, .int .i64 0] := st_start (p := (nodR0 l).p) h #[.string ⟨#[]⟩, .bool false, .int .i64 0, .int .i64 0, .int .i64 0, .int .i64 0, .slice none 0 0, .int .i64 0, .int .i64 0, .int .i64 0, .int .i64 0, .slice none 0 0, .int .i64 0, .int .i64 0, .int .i64 0, .int .i64 0] #[.string ⟨#[]⟩, .bool false, .int .i64 0, .int .i64 0, .int .i64 0, .int .i64 0, .slice none 0 0, .int .i64 0, .int .i64 0, .int .i64 0, .int .i64 0, .slice none 0 0, .int .i64 0, .int .i64 0, .int .i64 0, .int .i64 0] _ _
  have k0 : ∀ W, RdN W g B l (nodR0 l).p → (nodR0 l).err = 0 → Calls Try.prog 53 #[.pointer (some ⟨g, 0, none⟩)] W (Got g B l W (nodR1 l) fun v _ => v = .string (textV l (nodR0 l))) := fun W hh he => text_any g B l _ he W hh
  have k1 : ∀ W, RdN W g B l (nodR1 l).p → (nodR1 l).err = 0 → Calls Try.prog 54 #[.pointer (some ⟨g, 0, none⟩)] W (Got g B l W (nodR2 l) fun v _ => v = .bool (u8V l (nodR1 l) == 1)) := fun W hh he => dir_any g B l _ he W hh
  have k2 : ∀ W, RdN W g B l (nodR2 l).p → (nodR2 l).err = 0 → Calls Try.prog 55 #[.pointer (some ⟨g, 0, none⟩)] W (Got g B l W (nodR3 l) fun v _ => v = (labV l (nodR2 l)).v) := fun W hh he => label_any g B l _ he W hh
  have k3 : ∀ W, RdN W g B l (nodR3 l).p → (nodR3 l).err = 0 → Calls Try.prog 55 #[.pointer (some ⟨g, 0, none⟩)] W (Got g B l W (nodR4 l) fun v _ => v = (labV l (nodR3 l)).v) := fun W hh he => label_any g B l _ he W hh
  have k4 : ∀ W, RdN W g B l (nodR4 l).p → (nodR4 l).err = 0 → Calls Try.prog 56 #[.pointer (some ⟨g, 0, none⟩)] W (Got g B l W (nodR6 l) fun v w' => OwnG w' W.heap.size v (grsV l (nodR4 l))) := fun W hh he => grants_any g B l _ he W hh
  have k5 : ∀ W, RdN W g B l (nodR6 l).p → (nodR6 l).err = 0 → Calls Try.prog 57 #[.pointer (some ⟨g, 0, none⟩)] W (Got g B l W (nodR10 l) fun v _ => v = (labV l (nodR6 l)).v) := fun W hh he => rings_any g B l _ he W hh
  have k6 : ∀ W, RdN W g B l (nodR10 l).p → (nodR10 l).err = 0 → Calls Try.prog 58 #[.pointer (some ⟨g, 0, none⟩)] W (Got g B l W (nodR12 l) fun v w' => OwnW w' W.heap.size v (wdsV l (nodR10 l))) := fun W hh he => words_any g B l _ he W hh
  have e6 : (nodR12 l).err ≠ 0 → nodR12 l = nodR12 l := fun _ => rfl
  have e5 : (nodR10 l).err ≠ 0 → nodR12 l = nodR10 l := fun he => by
    have hb : nodR12 l = nodR10 l := wdsR_bad he
    rw [e6 (by rw [hb]; exact he), hb]
  have e4 : (nodR6 l).err ≠ 0 → nodR12 l = nodR6 l := fun he => by
    have hb : nodR10 l = nodR6 l := labR_bad he
    rw [e5 (by rw [hb]; exact he), hb]
  have e3 : (nodR4 l).err ≠ 0 → nodR12 l = nodR4 l := fun he => by
    have hb : nodR6 l = nodR4 l := grsR_bad he
    rw [e4 (by rw [hb]; exact he), hb]
  have e2 : (nodR3 l).err ≠ 0 → nodR12 l = nodR3 l := fun he => by
    have hb : nodR4 l = nodR3 l := labR_bad he
    rw [e3 (by rw [hb]; exact he), hb]
  have e1 : (nodR2 l).err ≠ 0 → nodR12 l = nodR2 l := fun he => by
    have hb : nodR3 l = nodR2 l := labR_bad he
    rw [e2 (by rw [hb]; exact he), hb]
  have e0 : (nodR1 l).err ≠ 0 → nodR12 l = nodR1 l := fun he => by
    have hb : nodR2 l = nodR1 l := dirR_bad he
    rw [e1 (by rw [hb]; exact he), hb]
  have z0 : (nodR0 l).err = 0 := rfl
  have hV : nodV l = ⟨textV l (nodR0 l), u8V l (nodR1 l) == 1, labV l (nodR2 l), grsV l (nodR4 l), (labV l (nodR6 l)).s, (labV l (nodR6 l)).c, (labV l (nodR6 l)).i, (labV l (nodR6 l)).k, wdsV l (nodR10 l), labV l (nodR3 l)⟩ := rfl
  rw [hV]
  clear hV
  generalize textV l (nodR0 l) = x0 at *
  generalize (u8V l (nodR1 l) == 1) = x1 at *
  generalize labV l (nodR2 l) = x2 at *
  generalize labV l (nodR3 l) = x3 at *
  generalize grsV l (nodR4 l) = x4 at *
  generalize labV l (nodR6 l) = x5 at *
  generalize wdsV l (nodR10 l) = x6 at *
  generalize nodR0 l = r0 at *
  generalize nodR1 l = r1 at *
  generalize nodR2 l = r2 at *
  generalize nodR3 l = r3 at *
  generalize nodR4 l = r4 at *
  generalize nodR6 l = r5 at *
  generalize nodR10 l = r6 at *
  generalize nodR12 l = r7 at *
  clear h
  have hi4L : (Try.prog.info? 23).map (·.size) = some 4 := by kernel_rfl
  have hi4R : (Try.prog.info? 26).map (·.size) = some 4 := by kernel_rfl
  go_enter Try.func36, Try.ntmps36
  go_wp2_with fail
  generalize (w.alloc (.cells #[.string ⟨#[]⟩, .bool false, .int .i64 0, .int .i64 0, .int .i64 0, .int .i64 0, .slice none 0 0, .int .i64 0, .int .i64 0, .int .i64 0, .int .i64 0, .slice none 0 0, .int .i64 0, .int .i64 0, .int .i64 0, .int .i64 0] 29)).alloc (.cells #[.string ⟨#[]⟩, .bool false, .int .i64 0, .int .i64 0, .int .i64 0, .int .i64 0, .slice none 0 0, .int .i64 0, .int .i64 0, .int .i64 0, .int .i64 0, .slice none 0 0, .int .i64 0, .int .i64 0, .int .i64 0, .int .i64 0] 29) = W0 at *
  refine (k0 _ st0.rd z0).mono ?_
  rintro e W1 ⟨hT, ⟨z1, v, rfl, rfl, hR⟩ | ⟨he, rfl⟩⟩
  rotate_left
  · have hen := e0 he
    subst hen
    refine died ?_
    exact ⟨st0.rs.trans hT, .inr ⟨he, rfl⟩⟩
  have sc0 := st0.call hR hT
  have q0 := (sc0.m3 0 _ rfl).1
  have f0 := (sc0.m3 0 _ rfl).2
  have st1 : St2 w (W1.setCell ⟨w.heap.size + 1, 0, none⟩ (.string x0)) g B l r1.p [.string ⟨#[]⟩, .bool false, .int .i64 0, .int .i64 0, .int .i64 0, .int .i64 0, .slice none 0 0, .int .i64 0, .int .i64 0, .int .i64 0, .int .i64 0, .slice none 0 0, .int .i64 0, .int .i64 0, .int .i64 0, .int .i64 0] [.string x0, .bool false, .int .i64 0, .int .i64 0, .int .i64 0, .int .i64 0, .slice none 0 0, .int .i64 0, .int .i64 0, .int .i64 0, .int .i64 0, .slice none 0 0, .int .i64 0, .int .i64 0, .int .i64 0, .int .i64 0] := sc0.put 0 [.string x0] (by simp)
  clear k0 e0 st0 sc0 hR hT
  go_wp2_with fail
  generalize W1.setCell ⟨w.heap.size + 1, 0, none⟩ (.string x0) = W2 at *
  clear q0 f0
  refine (k1 _ st1.rd z1).mono ?_
  rintro e W3 ⟨hT, ⟨z2, v, rfl, rfl, hR⟩ | ⟨he, rfl⟩⟩
  rotate_left
  · have hen := e1 he
    subst hen
    refine died ?_
    exact ⟨st1.rs.trans hT, .inr ⟨he, rfl⟩⟩
  have sc1 := st1.call hR hT
  have q1 := (sc1.m3 1 _ rfl).1
  have f1 := (sc1.m3 1 _ rfl).2
  have st2 : St2 w (W3.setCell ⟨w.heap.size + 1, 1, none⟩ (.bool x1)) g B l r2.p [.string ⟨#[]⟩, .bool false, .int .i64 0, .int .i64 0, .int .i64 0, .int .i64 0, .slice none 0 0, .int .i64 0, .int .i64 0, .int .i64 0, .int .i64 0, .slice none 0 0, .int .i64 0, .int .i64 0, .int .i64 0, .int .i64 0] [.string x0, .bool x1, .int .i64 0, .int .i64 0, .int .i64 0, .int .i64 0, .slice none 0 0, .int .i64 0, .int .i64 0, .int .i64 0, .int .i64 0, .slice none 0 0, .int .i64 0, .int .i64 0, .int .i64 0, .int .i64 0] := sc1.put 1 [.bool x1] (by simp)
  clear k1 e1 st1 sc1 hR hT
  go_wp2_with fail
  generalize W3.setCell ⟨w.heap.size + 1, 1, none⟩ (.bool x1) = W4 at *
  clear q1 f1
  refine (k2 _ st2.rd z2).mono ?_
  rintro e W5 ⟨hT, ⟨z3, v, rfl, rfl, hR⟩ | ⟨he, rfl⟩⟩
  rotate_left
  · have hen := e2 he
    subst hen
    refine died ?_
    exact ⟨st2.rs.trans hT, .inr ⟨he, rfl⟩⟩
  have sc2 := st2.call hR hT
  have hth2 : W5.there (w.heap.size + 1) 2 4 := sc2.there 2 4 (by simp)
  have s3 : St2 w (W5.setCells (w.heap.size + 1) 2 [.int .i64 x2.s, .int .i64 x2.c, .int .i64 x2.i, .int .i64 x2.k]) g B l r3.p [.string ⟨#[]⟩, .bool false, .int .i64 0, .int .i64 0, .int .i64 0, .int .i64 0, .slice none 0 0, .int .i64 0, .int .i64 0, .int .i64 0, .int .i64 0, .slice none 0 0, .int .i64 0, .int .i64 0, .int .i64 0, .int .i64 0] [.string x0, .bool x1, .int .i64 x2.s, .int .i64 x2.c, .int .i64 x2.i, .int .i64 x2.k, .slice none 0 0, .int .i64 0, .int .i64 0, .int .i64 0, .int .i64 0, .slice none 0 0, .int .i64 0, .int .i64 0, .int .i64 0, .int .i64 0] := sc2.put 2 [.int .i64 x2.s, .int .i64 x2.c, .int .i64 x2.i, .int .i64 x2.k] (by simp)
  clear k2 e2 st2 hR
  clear hT
  obtain ⟨W6, hW6⟩ : ∃ W', W5.setCells (w.heap.size + 1) 2 [.int .i64 x2.s, .int .i64 x2.c, .int .i64 x2.i, .int .i64 x2.k] = W' := ⟨_, rfl⟩
  rw [hW6] at s3
  have st3 := s3
  clear s3 sc2
  have h12 : ∀ v ∈ ([.int .i64 x2.s, .int .i64 x2.c, .int .i64 x2.i, .int .i64 x2.k] : List Value), v.oneCell' = true := by intro v hv; simp at hv; rcases hv with rfl | rfl | rfl | rfl <;> rfl
  go_wp2_with (first | (refine wpList_store_midw rfl _ _ rfl (w.heap.size + 1) 2 rfl [.int .i64 x2.s, .int .i64 x2.c, .int .i64 x2.i, .int .i64 x2.k] rfl hth2 hi4L h12 hW6 ?_) | fail)
  clear hth2 hW6
  refine (k3 _ st3.rd z3).mono ?_
  rintro e W7 ⟨hT, ⟨z4, v, rfl, rfl, hR⟩ | ⟨he, rfl⟩⟩
  rotate_left
  · have hen := e3 he
    subst hen
    refine died ?_
    exact ⟨st3.rs.trans hT, .inr ⟨he, rfl⟩⟩
  have sc3 := st3.call hR hT
  have hth3 : W7.there (w.heap.size + 1) 12 4 := sc3.there 12 4 (by simp)
  have s4 : St2 w (W7.setCells (w.heap.size + 1) 12 [.int .i64 x3.s, .int .i64 x3.c, .int .i64 x3.i, .int .i64 x3.k]) g B l r4.p [.string ⟨#[]⟩, .bool false, .int .i64 0, .int .i64 0, .int .i64 0, .int .i64 0, .slice none 0 0, .int .i64 0, .int .i64 0, .int .i64 0, .int .i64 0, .slice none 0 0, .int .i64 0, .int .i64 0, .int .i64 0, .int .i64 0] [.string x0, .bool x1, .int .i64 x2.s, .int .i64 x2.c, .int .i64 x2.i, .int .i64 x2.k, .slice none 0 0, .int .i64 0, .int .i64 0, .int .i64 0, .int .i64 0, .slice none 0 0, .int .i64 x3.s, .int .i64 x3.c, .int .i64 x3.i, .int .i64 x3.k] := sc3.put 12 [.int .i64 x3.s, .int .i64 x3.c, .int .i64 x3.i, .int .i64 x3.k] (by simp)
  clear k3 e3 st3 hR
  clear hT
  obtain ⟨W8, hW8⟩ : ∃ W', W7.setCells (w.heap.size + 1) 12 [.int .i64 x3.s, .int .i64 x3.c, .int .i64 x3.i, .int .i64 x3.k] = W' := ⟨_, rfl⟩
  rw [hW8] at s4
  have st4 := s4
  clear s4 sc3
  have h13 : ∀ v ∈ ([.int .i64 x3.s, .int .i64 x3.c, .int .i64 x3.i, .int .i64 x3.k] : List Value), v.oneCell' = true := by intro v hv; simp at hv; rcases hv with rfl | rfl | rfl | rfl <;> rfl
  go_wp2_with (first | (refine wpList_store_midw rfl _ _ rfl (w.heap.size + 1) 12 rfl [.int .i64 x3.s, .int .i64 x3.c, .int .i64 x3.i, .int .i64 x3.k] rfl hth3 hi4L h13 hW8 ?_) | fail)
  clear hth3 hW8
  refine (k4 _ st4.rd z4).mono ?_
  rintro e W9 ⟨hT, ⟨z5, v4, rfl, ho, hR⟩ | ⟨he, rfl⟩⟩
  rotate_left
  · have hen := e4 he
    subst hen
    refine died ?_
    exact ⟨st4.rs.trans hT, .inr ⟨he, rfl⟩⟩
  have sc4 := st4.call hR hT
  have o4 := ho.lower (show w.heap.size + 2 ≤ W8.heap.size from st4.two)
  clear ho
  obtain ⟨a4, c4, hv, -, -, -⟩ := OwnR.slice gr_ok.len o4
  subst hv
  have q4 := (sc4.m3 6 _ rfl).1
  have f4 := (sc4.m3 6 _ rfl).2
  have st5 : St2 w (W9.setCell ⟨w.heap.size + 1, 6, none⟩ (.slice a4 x4.length c4)) g B l r5.p [.string ⟨#[]⟩, .bool false, .int .i64 0, .int .i64 0, .int .i64 0, .int .i64 0, .slice none 0 0, .int .i64 0, .int .i64 0, .int .i64 0, .int .i64 0, .slice none 0 0, .int .i64 0, .int .i64 0, .int .i64 0, .int .i64 0] [.string x0, .bool x1, .int .i64 x2.s, .int .i64 x2.c, .int .i64 x2.i, .int .i64 x2.k, .slice a4 x4.length c4, .int .i64 0, .int .i64 0, .int .i64 0, .int .i64 0, .slice none 0 0, .int .i64 x3.s, .int .i64 x3.c, .int .i64 x3.i, .int .i64 x3.k] := sc4.put 6 [.slice a4 x4.length c4] (by simp)
  replace o4 := o4.setMid (show (w.heap.size + 1) < w.heap.size + 2 by omega) 6 [.slice a4 x4.length c4]
  change OwnR _ _ _ (W9.setCell ⟨w.heap.size + 1, 6, none⟩ (.slice a4 x4.length c4)) _ _ _ at o4
  clear k4 e4 st4 sc4 hR hT
  go_wp2_with fail
  generalize W9.setCell ⟨w.heap.size + 1, 6, none⟩ (.slice a4 x4.length c4) = W10 at *
  clear q4 f4
  refine (k5 _ st5.rd z5).mono ?_
  rintro e W11 ⟨hT, ⟨z6, v, rfl, rfl, hR⟩ | ⟨he, rfl⟩⟩
  rotate_left
  · have hen := e5 he
    subst hen
    refine died ?_
    exact ⟨st5.rs.trans hT, .inr ⟨he, rfl⟩⟩
  have sc5 := st5.call hR hT
  replace o4 := o4.rest hT (by have := hgB.1; omega)
  have hth5 : W11.there (w.heap.size + 1) 7 4 := sc5.there 7 4 (by simp)
  have s6 : St2 w (W11.setCells (w.heap.size + 1) 7 [.int .i64 x5.s, .int .i64 x5.c, .int .i64 x5.i, .int .i64 x5.k]) g B l r6.p [.string ⟨#[]⟩, .bool false, .int .i64 0, .int .i64 0, .int .i64 0, .int .i64 0, .slice none 0 0, .int .i64 0, .int .i64 0, .int .i64 0, .int .i64 0, .slice none 0 0, .int .i64 0, .int .i64 0, .int .i64 0, .int .i64 0] [.string x0, .bool x1, .int .i64 x2.s, .int .i64 x2.c, .int .i64 x2.i, .int .i64 x2.k, .slice a4 x4.length c4, .int .i64 x5.s, .int .i64 x5.c, .int .i64 x5.i, .int .i64 x5.k, .slice none 0 0, .int .i64 x3.s, .int .i64 x3.c, .int .i64 x3.i, .int .i64 x3.k] := sc5.put 7 [.int .i64 x5.s, .int .i64 x5.c, .int .i64 x5.i, .int .i64 x5.k] (by simp)
  clear k5 e5 st5 hR
  replace o4 := o4.setMid (show (w.heap.size + 1) < w.heap.size + 2 by omega) 7 [.int .i64 x5.s, .int .i64 x5.c, .int .i64 x5.i, .int .i64 x5.k]
  clear hT
  obtain ⟨W12, hW12⟩ : ∃ W', W11.setCells (w.heap.size + 1) 7 [.int .i64 x5.s, .int .i64 x5.c, .int .i64 x5.i, .int .i64 x5.k] = W' := ⟨_, rfl⟩
  rw [hW12] at s6 o4
  have st6 := s6
  clear s6 sc5
  have h15 : ∀ v ∈ ([.int .i64 x5.s, .int .i64 x5.c, .int .i64 x5.i, .int .i64 x5.k] : List Value), v.oneCell' = true := by intro v hv; simp at hv; rcases hv with rfl | rfl | rfl | rfl <;> rfl
  go_wp2_with (first | (refine wpList_store_midw rfl _ _ rfl (w.heap.size + 1) 7 rfl [.int .i64 x5.s, .int .i64 x5.c, .int .i64 x5.i, .int .i64 x5.k] rfl hth5 hi4R h15 hW12 ?_) | fail)
  clear hth5 hW12
  refine (k6 _ st6.rd z6).mono ?_
  rintro e W13 ⟨hT, ⟨z7, v6, rfl, ho, hR⟩ | ⟨he, rfl⟩⟩
  rotate_left
  · refine died ?_
    exact ⟨st6.rs.trans hT, .inr ⟨he, rfl⟩⟩
  have sc6 := st6.call hR hT
  replace o4 := o4.rest hT (by have := hgB.1; omega)
  have o6 := ho.lower (show w.heap.size + 2 ≤ W12.heap.size from st6.two)
  clear ho
  obtain ⟨a6, c6, hv, -, -, -⟩ := OwnR.slice wd_ok.len o6
  subst hv
  have q6 := (sc6.m3 11 _ rfl).1
  have f6 := (sc6.m3 11 _ rfl).2
  have st7 : St2 w (W13.setCell ⟨w.heap.size + 1, 11, none⟩ (.slice a6 x6.length c6)) g B l r7.p [.string ⟨#[]⟩, .bool false, .int .i64 0, .int .i64 0, .int .i64 0, .int .i64 0, .slice none 0 0, .int .i64 0, .int .i64 0, .int .i64 0, .int .i64 0, .slice none 0 0, .int .i64 0, .int .i64 0, .int .i64 0, .int .i64 0] [.string x0, .bool x1, .int .i64 x2.s, .int .i64 x2.c, .int .i64 x2.i, .int .i64 x2.k, .slice a4 x4.length c4, .int .i64 x5.s, .int .i64 x5.c, .int .i64 x5.i, .int .i64 x5.k, .slice a6 x6.length c6, .int .i64 x3.s, .int .i64 x3.c, .int .i64 x3.i, .int .i64 x3.k] := sc6.put 11 [.slice a6 x6.length c6] (by simp)
  replace o4 := o4.setMid (show (w.heap.size + 1) < w.heap.size + 2 by omega) 11 [.slice a6 x6.length c6]
  replace o6 := o6.setMid (show (w.heap.size + 1) < w.heap.size + 2 by omega) 11 [.slice a6 x6.length c6]
  change OwnR _ _ _ (W13.setCell ⟨w.heap.size + 1, 11, none⟩ (.slice a6 x6.length c6)) _ _ _ at o4
  change OwnR _ _ _ (W13.setCell ⟨w.heap.size + 1, 11, none⟩ (.slice a6 x6.length c6)) _ _ _ at o6
  clear k6 e6 st6 sc6 hR hT
  obtain ⟨cs, hcs⟩ : ∃ cs : List Value, [.string x0, .bool x1, .int .i64 x2.s, .int .i64 x2.c, .int .i64 x2.i, .int .i64 x2.k, .slice a4 x4.length c4, .int .i64 x5.s, .int .i64 x5.c, .int .i64 x5.i, .int .i64 x5.k, .slice a6 x6.length c6, .int .i64 x3.s, .int .i64 x3.c, .int .i64 x3.i, .int .i64 x3.k] = cs := ⟨_, rfl⟩
  have hone : ∀ v ∈ cs, v.oneCell' = true := by rw [← hcs]; intro v hv; simp only [List.mem_cons, List.not_mem_nil, or_false] at hv; rcases hv with rfl | rfl | rfl | rfl | rfl | rfl | rfl | rfl | rfl | rfl | rfl | rfl | rfl | rfl | rfl | rfl <;> rfl
  have hlen : cs.length = 16 := by rw [← hcs]; rfl
  rw [hcs] at st7
  have hr3 : (W13.setCell ⟨w.heap.size + 1, 11, none⟩ (.slice a6 x6.length c6)).rangeAt (w.heap.size + 1) 0 cs := st7.m3.range
  have ht2 : (W13.setCell ⟨w.heap.size + 1, 11, none⟩ (.slice a6 x6.length c6)).there w.heap.size 0 cs.length := by rw [hlen]; exact st7.m2.there
  have fin := st7.out cs (by rw [hlen]; rfl)
  replace o4 := o4.setMid (show w.heap.size < w.heap.size + 2 by omega) 0 cs
  replace o6 := o6.setMid (show w.heap.size < w.heap.size + 2 by omega) 0 cs
  have hi : (Try.prog.info? 29).map (·.size) = some cs.length := by rw [hlen]; kernel_rfl
  obtain ⟨Wz, hWz⟩ : ∃ W', (W13.setCell ⟨w.heap.size + 1, 11, none⟩ (.slice a6 x6.length c6)).setCells w.heap.size 0 cs = W' := ⟨_, rfl⟩
  rw [hWz] at fin o4 o6
  clear st7 hlen
  have hcs : Aside ([.string x0, .bool x1, .int .i64 x2.s, .int .i64 x2.c, .int .i64 x2.i, .int .i64 x2.k, .slice a4 x4.length c4, .int .i64 x5.s, .int .i64 x5.c, .int .i64 x5.i, .int .i64 x5.k, .slice a6 x6.length c6, .int .i64 x3.s, .int .i64 x3.c, .int .i64 x3.i, .int .i64 x3.k] = cs) := hcs
  go_wp2_with (first | (refine wpList_load_row rfl _ rfl (w.heap.size + 1) rfl cs hr3 Try.underlying29 rfl hi ?_) | (refine wpList_store_row rfl _ _ rfl w.heap.size rfl cs rfl ht2 hi hone hWz ?_) | fail)
  refine bodyPost_ret (v := .agg cs.toArray) (results_row1 rfl _ _ w.heap.size rfl cs fin.1 Try.underlying29 rfl hi) rfl ?_
  rw [← hcs.out]
  exact ⟨fin.2.1, .inl ⟨z7, _, rfl, ⟨_, _, rfl, o4.lower (by omega), o6.lower (by omega)⟩, fin.2.2⟩⟩
end Go.Proofs.Ytecleampjeebaaa
