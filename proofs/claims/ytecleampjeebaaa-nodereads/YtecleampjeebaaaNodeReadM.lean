/-
  PACKAGE node AS IT LANDED: its reader's message. Written by mk_nread.py.
-/
import Derived.Test.YtecleampjeebaaaNodeSt2
namespace Go.Proofs.Ytecleampjeebaaa
open Go.RowKit
set_option linter.unusedSimpArgs false
set_option linter.unusedVariables false

set_option maxRecDepth 8000 in
set_option maxHeartbeats 8000000 in
theorem message_any (g B : Nat) (l : List UInt8) (w : World) (h : RdN w g B l 0) :
    Calls Try.prog 46 #[.pointer (some ⟨g, 0, none⟩)] w (Got g B l w (msgR5 l) fun v _ => v = (msgV l).v) := by
  have hgB := h.lt
  have st0 : St2 w ((w.alloc (.cells #[.string ⟨#[]⟩, .int .i64 0, .int .i64 0, .int .i64 0, .int .i64 0, .string ⟨#[]⟩, .int .i64 0, .int .i64 0, .int .i64 0, .int .i64 0, .string ⟨#[]⟩] 42)).alloc (.cells #[.string ⟨#[]⟩, .int .i64 0, .int .i64 0, .int .i64 0, .int .i64 0, .string ⟨#[]⟩, .int .i64 0, .int .i64 0, .int .i64 0, .int .i64 0, .string ⟨#[]⟩] 42)) g B l (msgR0 l).p [.string ⟨#[]⟩, .int .i64 0, .int .i64 0, .int .i64 0, .int .i64 0, .string ⟨#[]⟩, .int .i64 0, .int .i64 0, .int .i64 0, .int .i64 0, .string ⟨#[]⟩] [.string ⟨#[]⟩, .int .i64 0, .int .i64 0, .int .i64 0, .int .i64 0, .string ⟨#[]⟩, .int .i64 0, .int .i64 0, .int .i64 0, .int .i64 0, .string ⟨#[]⟩] := st_start (p := (msgR0 l).p) h #[.string ⟨#[]⟩, .int .i64 0, .int .i64 0, .int .i64 0, .int .i64 0, .string ⟨#[]⟩, .int .i64 0, .int .i64 0, .int .i64 0, .int .i64 0, .string ⟨#[]⟩] #[.string ⟨#[]⟩, .int .i64 0, .int .i64 0, .int .i64 0, .int .i64 0, .string ⟨#[]⟩, .int .i64 0, .int .i64 0, .int .i64 0, .int .i64 0, .string ⟨#[]⟩] _ _
  have k0 : ∀ W, RdN W g B l (msgR0 l).p → (msgR0 l).err = 0 → Calls Try.prog 53 #[.pointer (some ⟨g, 0, none⟩)] W (Got g B l W (msgR1 l) fun v _ => v = .string (textV l (msgR0 l))) := fun W hh he => text_any g B l _ he W hh
  have k1 : ∀ W, RdN W g B l (msgR1 l).p → (msgR1 l).err = 0 → Calls Try.prog 55 #[.pointer (some ⟨g, 0, none⟩)] W (Got g B l W (msgR2 l) fun v _ => v = (labV l (msgR1 l)).v) := fun W hh he => label_any g B l _ he W hh
  have k2 : ∀ W, RdN W g B l (msgR2 l).p → (msgR2 l).err = 0 → Calls Try.prog 53 #[.pointer (some ⟨g, 0, none⟩)] W (Got g B l W (msgR3 l) fun v _ => v = .string (textV l (msgR2 l))) := fun W hh he => text_any g B l _ he W hh
  have k3 : ∀ W, RdN W g B l (msgR3 l).p → (msgR3 l).err = 0 → Calls Try.prog 55 #[.pointer (some ⟨g, 0, none⟩)] W (Got g B l W (msgR4 l) fun v _ => v = (labV l (msgR3 l)).v) := fun W hh he => label_any g B l _ he W hh
  have k4 : ∀ W, RdN W g B l (msgR4 l).p → (msgR4 l).err = 0 → Calls Try.prog 53 #[.pointer (some ⟨g, 0, none⟩)] W (Got g B l W (msgR5 l) fun v _ => v = .string (textV l (msgR4 l))) := fun W hh he => text_any g B l _ he W hh
  have e4 : (msgR5 l).err ≠ 0 → msgR5 l = msgR5 l := fun _ => rfl
  have e3 : (msgR4 l).err ≠ 0 → msgR5 l = msgR4 l := fun he => by
    have hb : msgR5 l = msgR4 l := textR_bad he
    rw [e4 (by rw [hb]; exact he), hb]
  have e2 : (msgR3 l).err ≠ 0 → msgR5 l = msgR3 l := fun he => by
    have hb : msgR4 l = msgR3 l := labR_bad he
    rw [e3 (by rw [hb]; exact he), hb]
  have e1 : (msgR2 l).err ≠ 0 → msgR5 l = msgR2 l := fun he => by
    have hb : msgR3 l = msgR2 l := textR_bad he
    rw [e2 (by rw [hb]; exact he), hb]
  have e0 : (msgR1 l).err ≠ 0 → msgR5 l = msgR1 l := fun he => by
    have hb : msgR2 l = msgR1 l := labR_bad he
    rw [e1 (by rw [hb]; exact he), hb]
  have z0 : (msgR0 l).err = 0 := rfl
  have hV : msgV l = ⟨textV l (msgR0 l), labV l (msgR1 l), textV l (msgR2 l), labV l (msgR3 l), textV l (msgR4 l)⟩ := rfl
  rw [hV]
  clear hV
  generalize textV l (msgR0 l) = x0 at *
  generalize labV l (msgR1 l) = x1 at *
  generalize textV l (msgR2 l) = x2 at *
  generalize labV l (msgR3 l) = x3 at *
  generalize textV l (msgR4 l) = x4 at *
  generalize msgR0 l = r0 at *
  generalize msgR1 l = r1 at *
  generalize msgR2 l = r2 at *
  generalize msgR3 l = r3 at *
  generalize msgR4 l = r4 at *
  generalize msgR5 l = r5 at *
  clear h
  have hi4L : (Try.prog.info? 23).map (·.size) = some 4 := by kernel_rfl
  go_enter Try.func46, Try.ntmps46
  go_wp2_with fail
  generalize (w.alloc (.cells #[.string ⟨#[]⟩, .int .i64 0, .int .i64 0, .int .i64 0, .int .i64 0, .string ⟨#[]⟩, .int .i64 0, .int .i64 0, .int .i64 0, .int .i64 0, .string ⟨#[]⟩] 42)).alloc (.cells #[.string ⟨#[]⟩, .int .i64 0, .int .i64 0, .int .i64 0, .int .i64 0, .string ⟨#[]⟩, .int .i64 0, .int .i64 0, .int .i64 0, .int .i64 0, .string ⟨#[]⟩] 42) = W0 at *
  refine (k0 _ st0.rd z0).mono ?_
  rintro e W1 ⟨hT, ⟨z1, v, rfl, rfl, hR⟩ | ⟨he, rfl⟩⟩
  rotate_left
  · have hen := e0 he
    subst hen
    refine died ?_
    exact ⟨st0.rs.trans hT, .inr ⟨he, rfl⟩⟩
  have sc0 := st0.call hR hT
  have q0 := (sc0.m3 0 _ rfl).1
  have f0 := (sc0.m3 0 _ rfl).2
  have st1 : St2 w (W1.setCell ⟨w.heap.size + 1, 0, none⟩ (.string x0)) g B l r1.p [.string ⟨#[]⟩, .int .i64 0, .int .i64 0, .int .i64 0, .int .i64 0, .string ⟨#[]⟩, .int .i64 0, .int .i64 0, .int .i64 0, .int .i64 0, .string ⟨#[]⟩] [.string x0, .int .i64 0, .int .i64 0, .int .i64 0, .int .i64 0, .string ⟨#[]⟩, .int .i64 0, .int .i64 0, .int .i64 0, .int .i64 0, .string ⟨#[]⟩] := sc0.put 0 [.string x0] (by simp)
  clear k0 e0 st0 sc0 hR hT
  go_wp2_with fail
  generalize W1.setCell ⟨w.heap.size + 1, 0, none⟩ (.string x0) = W2 at *
  clear q0 f0
  refine (k1 _ st1.rd z1).mono ?_
  rintro e W3 ⟨hT, ⟨z2, v, rfl, rfl, hR⟩ | ⟨he, rfl⟩⟩
  rotate_left
  · have hen := e1 he
    subst hen
    refine died ?_
    exact ⟨st1.rs.trans hT, .inr ⟨he, rfl⟩⟩
  have sc1 := st1.call hR hT
  have hth1 : W3.there (w.heap.size + 1) 1 4 := sc1.there 1 4 (by simp)
  have s2 : St2 w (W3.setCells (w.heap.size + 1) 1 [.int .i64 x1.s, .int .i64 x1.c, .int .i64 x1.i, .int .i64 x1.k]) g B l r2.p [.string ⟨#[]⟩, .int .i64 0, .int .i64 0, .int .i64 0, .int .i64 0, .string ⟨#[]⟩, .int .i64 0, .int .i64 0, .int .i64 0, .int .i64 0, .string ⟨#[]⟩] [.string x0, .int .i64 x1.s, .int .i64 x1.c, .int .i64 x1.i, .int .i64 x1.k, .string ⟨#[]⟩, .int .i64 0, .int .i64 0, .int .i64 0, .int .i64 0, .string ⟨#[]⟩] := sc1.put 1 [.int .i64 x1.s, .int .i64 x1.c, .int .i64 x1.i, .int .i64 x1.k] (by simp)
  clear k1 e1 st1 hR
  clear hT
  obtain ⟨W4, hW4⟩ : ∃ W', W3.setCells (w.heap.size + 1) 1 [.int .i64 x1.s, .int .i64 x1.c, .int .i64 x1.i, .int .i64 x1.k] = W' := ⟨_, rfl⟩
  rw [hW4] at s2
  have st2 := s2
  clear s2 sc1
  have h11 : ∀ v ∈ ([.int .i64 x1.s, .int .i64 x1.c, .int .i64 x1.i, .int .i64 x1.k] : List Value), v.oneCell' = true := by intro v hv; simp at hv; rcases hv with rfl | rfl | rfl | rfl <;> rfl
  go_wp2_with (first | (refine wpList_store_midw rfl _ _ rfl (w.heap.size + 1) 1 rfl [.int .i64 x1.s, .int .i64 x1.c, .int .i64 x1.i, .int .i64 x1.k] rfl hth1 hi4L h11 hW4 ?_) | fail)
  clear hth1 hW4
  refine (k2 _ st2.rd z2).mono ?_
  rintro e W5 ⟨hT, ⟨z3, v, rfl, rfl, hR⟩ | ⟨he, rfl⟩⟩
  rotate_left
  · have hen := e2 he
    subst hen
    refine died ?_
    exact ⟨st2.rs.trans hT, .inr ⟨he, rfl⟩⟩
  have sc2 := st2.call hR hT
  have q2 := (sc2.m3 5 _ rfl).1
  have f2 := (sc2.m3 5 _ rfl).2
  have st3 : St2 w (W5.setCell ⟨w.heap.size + 1, 5, none⟩ (.string x2)) g B l r3.p [.string ⟨#[]⟩, .int .i64 0, .int .i64 0, .int .i64 0, .int .i64 0, .string ⟨#[]⟩, .int .i64 0, .int .i64 0, .int .i64 0, .int .i64 0, .string ⟨#[]⟩] [.string x0, .int .i64 x1.s, .int .i64 x1.c, .int .i64 x1.i, .int .i64 x1.k, .string x2, .int .i64 0, .int .i64 0, .int .i64 0, .int .i64 0, .string ⟨#[]⟩] := sc2.put 5 [.string x2] (by simp)
  clear k2 e2 st2 sc2 hR hT
  go_wp2_with fail
  generalize W5.setCell ⟨w.heap.size + 1, 5, none⟩ (.string x2) = W6 at *
  clear q2 f2
  refine (k3 _ st3.rd z3).mono ?_
  rintro e W7 ⟨hT, ⟨z4, v, rfl, rfl, hR⟩ | ⟨he, rfl⟩⟩
  rotate_left
  · have hen := e3 he
    subst hen
    refine died ?_
    exact ⟨st3.rs.trans hT, .inr ⟨he, rfl⟩⟩
  have sc3 := st3.call hR hT
  have hth3 : W7.there (w.heap.size + 1) 6 4 := sc3.there 6 4 (by simp)
  have s4 : St2 w (W7.setCells (w.heap.size + 1) 6 [.int .i64 x3.s, .int .i64 x3.c, .int .i64 x3.i, .int .i64 x3.k]) g B l r4.p [.string ⟨#[]⟩, .int .i64 0, .int .i64 0, .int .i64 0, .int .i64 0, .string ⟨#[]⟩, .int .i64 0, .int .i64 0, .int .i64 0, .int .i64 0, .string ⟨#[]⟩] [.string x0, .int .i64 x1.s, .int .i64 x1.c, .int .i64 x1.i, .int .i64 x1.k, .string x2, .int .i64 x3.s, .int .i64 x3.c, .int .i64 x3.i, .int .i64 x3.k, .string ⟨#[]⟩] := sc3.put 6 [.int .i64 x3.s, .int .i64 x3.c, .int .i64 x3.i, .int .i64 x3.k] (by simp)
  clear k3 e3 st3 hR
  clear hT
  obtain ⟨W8, hW8⟩ : ∃ W', W7.setCells (w.heap.size + 1) 6 [.int .i64 x3.s, .int .i64 x3.c, .int .i64 x3.i, .int .i64 x3.k] = W' := ⟨_, rfl⟩
  rw [hW8] at s4
  have st4 := s4
  clear s4 sc3
  have h13 : ∀ v ∈ ([.int .i64 x3.s, .int .i64 x3.c, .int .i64 x3.i, .int .i64 x3.k] : List Value), v.oneCell' = true := by intro v hv; simp at hv; rcases hv with rfl | rfl | rfl | rfl <;> rfl
  go_wp2_with (first | (refine wpList_store_midw rfl _ _ rfl (w.heap.size + 1) 6 rfl [.int .i64 x3.s, .int .i64 x3.c, .int .i64 x3.i, .int .i64 x3.k] rfl hth3 hi4L h13 hW8 ?_) | fail)
  clear hth3 hW8
  refine (k4 _ st4.rd z4).mono ?_
  rintro e W9 ⟨hT, ⟨z5, v, rfl, rfl, hR⟩ | ⟨he, rfl⟩⟩
  rotate_left
  · refine died ?_
    exact ⟨st4.rs.trans hT, .inr ⟨he, rfl⟩⟩
  have sc4 := st4.call hR hT
  have q4 := (sc4.m3 10 _ rfl).1
  have f4 := (sc4.m3 10 _ rfl).2
  have st5 : St2 w (W9.setCell ⟨w.heap.size + 1, 10, none⟩ (.string x4)) g B l r5.p [.string ⟨#[]⟩, .int .i64 0, .int .i64 0, .int .i64 0, .int .i64 0, .string ⟨#[]⟩, .int .i64 0, .int .i64 0, .int .i64 0, .int .i64 0, .string ⟨#[]⟩] [.string x0, .int .i64 x1.s, .int .i64 x1.c, .int .i64 x1.i, .int .i64 x1.k, .string x2, .int .i64 x3.s, .int .i64 x3.c, .int .i64 x3.i, .int .i64 x3.k, .string x4] := sc4.put 10 [.string x4] (by simp)
  clear k4 e4 st4 sc4 hR hT
  obtain ⟨cs, hcs⟩ : ∃ cs : List Value, [.string x0, .int .i64 x1.s, .int .i64 x1.c, .int .i64 x1.i, .int .i64 x1.k, .string x2, .int .i64 x3.s, .int .i64 x3.c, .int .i64 x3.i, .int .i64 x3.k, .string x4] = cs := ⟨_, rfl⟩
  have hone : ∀ v ∈ cs, v.oneCell' = true := by rw [← hcs]; intro v hv; simp only [List.mem_cons, List.not_mem_nil, or_false] at hv; rcases hv with rfl | rfl | rfl | rfl | rfl | rfl | rfl | rfl | rfl | rfl | rfl <;> rfl
  have hlen : cs.length = 11 := by rw [← hcs]; rfl
  rw [hcs] at st5
  have hr3 : (W9.setCell ⟨w.heap.size + 1, 10, none⟩ (.string x4)).rangeAt (w.heap.size + 1) 0 cs := st5.m3.range
  have ht2 : (W9.setCell ⟨w.heap.size + 1, 10, none⟩ (.string x4)).there w.heap.size 0 cs.length := by rw [hlen]; exact st5.m2.there
  have fin := st5.out cs (by rw [hlen]; rfl)
  have hi : (Try.prog.info? 42).map (·.size) = some cs.length := by rw [hlen]; kernel_rfl
  obtain ⟨Wz, hWz⟩ : ∃ W', (W9.setCell ⟨w.heap.size + 1, 10, none⟩ (.string x4)).setCells w.heap.size 0 cs = W' := ⟨_, rfl⟩
  rw [hWz] at fin
  clear st5 hlen
  have hcs : Aside ([.string x0, .int .i64 x1.s, .int .i64 x1.c, .int .i64 x1.i, .int .i64 x1.k, .string x2, .int .i64 x3.s, .int .i64 x3.c, .int .i64 x3.i, .int .i64 x3.k, .string x4] = cs) := hcs
  go_wp2_with (first | (refine wpList_load_row rfl _ rfl (w.heap.size + 1) rfl cs hr3 Try.underlying42 rfl hi ?_) | (refine wpList_store_row rfl _ _ rfl w.heap.size rfl cs rfl ht2 hi hone hWz ?_) | fail)
  refine bodyPost_ret (v := .agg cs.toArray) (results_row1 rfl _ _ w.heap.size rfl cs fin.1 Try.underlying42 rfl hi) rfl ?_
  rw [← hcs.out]
  exact ⟨fin.2.1, .inl ⟨z5, _, rfl, rfl, fin.2.2⟩⟩
end Go.Proofs.Ytecleampjeebaaa
