/-
  PACKAGE node AS IT LANDED: its reader's entry. Written by mk_nread.py.
-/
import Derived.Test.YtecleampjeebaaaNodeSt2
namespace Go.Proofs.Ytecleampjeebaaa
open Go.RowKit
set_option linter.unusedSimpArgs false
set_option linter.unusedVariables false

set_option maxRecDepth 8000 in
set_option maxHeartbeats 8000000 in
theorem entry_any (g B : Nat) (l : List UInt8) (w : World) (h : RdN w g B l 0) :
    Calls Try.prog 48 #[.pointer (some ⟨g, 0, none⟩)] w (Got g B l w (entR6 l) fun v _ => v = (entV l).v) := by
  have hgB := h.lt
  have st0 : St2 w ((w.alloc (.cells #[.int .i64 0, .int .i64 0, .int .i64 0, .int .i64 0, .int .i64 0, .string ⟨#[]⟩, .int .i64 0, .string ⟨#[]⟩, .int .i64 0] 48)).alloc (.cells #[.int .i64 0, .int .i64 0, .int .i64 0, .int .i64 0, .int .i64 0, .string ⟨#[]⟩, .int .i64 0, .string ⟨#[]⟩, .int .i64 0] 48)) g B l (entR0 l).p [.int .i64 0, .int .i64 0, .int .i64 0, .int .i64 0, .int .i64 0, .string ⟨#[]⟩, .int .i64 0, .string ⟨#[]⟩, .int .i64 0] [.int .i64 0, .int .i64 0, .int .i64 0, .int .i64 0, .int .i64 0, .string ⟨#[]⟩, .int .i64 0, .string ⟨#[]⟩, .int .i64 0] := st_start (p := (entR0 l).p) h #[.int .i64 0, .int .i64 0, .int .i64 0, .int .i64 0, .int .i64 0, .string ⟨#[]⟩, .int .i64 0, .string ⟨#[]⟩, .int .i64 0] #[.int .i64 0, .int .i64 0, .int .i64 0, .int .i64 0, .int .i64 0, .string ⟨#[]⟩, .int .i64 0, .string ⟨#[]⟩, .int .i64 0] _ _
  have k0 : ∀ W, RdN W g B l (entR0 l).p → (entR0 l).err = 0 → Calls Try.prog 61 #[.pointer (some ⟨g, 0, none⟩)] W (Got g B l W (entR1 l) fun v _ => v = .int .i64 (numV l (entR0 l))) := fun W hh he => eight_any g B l _ he W hh
  have k1 : ∀ W, RdN W g B l (entR1 l).p → (entR1 l).err = 0 → Calls Try.prog 55 #[.pointer (some ⟨g, 0, none⟩)] W (Got g B l W (entR2 l) fun v _ => v = (labV l (entR1 l)).v) := fun W hh he => label_any g B l _ he W hh
  have k2 : ∀ W, RdN W g B l (entR2 l).p → (entR2 l).err = 0 → Calls Try.prog 53 #[.pointer (some ⟨g, 0, none⟩)] W (Got g B l W (entR3 l) fun v _ => v = .string (textV l (entR2 l))) := fun W hh he => text_any g B l _ he W hh
  have k3 : ∀ W, RdN W g B l (entR3 l).p → (entR3 l).err = 0 → Calls Try.prog 62 #[.pointer (some ⟨g, 0, none⟩)] W (Got g B l W (entR4 l) fun v _ => v = .int .i64 (u8V l (entR3 l) : Nat)) := fun W hh he => number_any g B l _ he W hh
  have k4 : ∀ W, RdN W g B l (entR4 l).p → (entR4 l).err = 0 → Calls Try.prog 53 #[.pointer (some ⟨g, 0, none⟩)] W (Got g B l W (entR5 l) fun v _ => v = .string (textV l (entR4 l))) := fun W hh he => text_any g B l _ he W hh
  have k5 : ∀ W, RdN W g B l (entR5 l).p → (entR5 l).err = 0 → Calls Try.prog 62 #[.pointer (some ⟨g, 0, none⟩)] W (Got g B l W (entR6 l) fun v _ => v = .int .i64 (u8V l (entR5 l) : Nat)) := fun W hh he => number_any g B l _ he W hh
  have e5 : (entR6 l).err ≠ 0 → entR6 l = entR6 l := fun _ => rfl
  have e4 : (entR5 l).err ≠ 0 → entR6 l = entR5 l := fun he => by
    have hb : entR6 l = entR5 l := u8R_bad he
    rw [e5 (by rw [hb]; exact he), hb]
  have e3 : (entR4 l).err ≠ 0 → entR6 l = entR4 l := fun he => by
    have hb : entR5 l = entR4 l := textR_bad he
    rw [e4 (by rw [hb]; exact he), hb]
  have e2 : (entR3 l).err ≠ 0 → entR6 l = entR3 l := fun he => by
    have hb : entR4 l = entR3 l := u8R_bad he
    rw [e3 (by rw [hb]; exact he), hb]
  have e1 : (entR2 l).err ≠ 0 → entR6 l = entR2 l := fun he => by
    have hb : entR3 l = entR2 l := textR_bad he
    rw [e2 (by rw [hb]; exact he), hb]
  have e0 : (entR1 l).err ≠ 0 → entR6 l = entR1 l := fun he => by
    have hb : entR2 l = entR1 l := labR_bad he
    rw [e1 (by rw [hb]; exact he), hb]
  have z0 : (entR0 l).err = 0 := rfl
  have hV : entV l = ⟨numV l (entR0 l), labV l (entR1 l), textV l (entR2 l), ((u8V l (entR3 l) : Nat) : Int), textV l (entR4 l), ((u8V l (entR5 l) : Nat) : Int)⟩ := rfl
  rw [hV]
  clear hV
  generalize numV l (entR0 l) = x0 at *
  generalize labV l (entR1 l) = x1 at *
  generalize textV l (entR2 l) = x2 at *
  generalize u8V l (entR3 l) = x3 at *
  generalize textV l (entR4 l) = x4 at *
  generalize u8V l (entR5 l) = x5 at *
  generalize entR0 l = r0 at *
  generalize entR1 l = r1 at *
  generalize entR2 l = r2 at *
  generalize entR3 l = r3 at *
  generalize entR4 l = r4 at *
  generalize entR5 l = r5 at *
  generalize entR6 l = r6 at *
  clear h
  have hi4L : (Try.prog.info? 23).map (·.size) = some 4 := by kernel_rfl
  go_enter Try.func48, Try.ntmps48
  go_wp2_with fail
  generalize (w.alloc (.cells #[.int .i64 0, .int .i64 0, .int .i64 0, .int .i64 0, .int .i64 0, .string ⟨#[]⟩, .int .i64 0, .string ⟨#[]⟩, .int .i64 0] 48)).alloc (.cells #[.int .i64 0, .int .i64 0, .int .i64 0, .int .i64 0, .int .i64 0, .string ⟨#[]⟩, .int .i64 0, .string ⟨#[]⟩, .int .i64 0] 48) = W0 at *
  refine (k0 _ st0.rd z0).mono ?_
  rintro e W1 ⟨hT, ⟨z1, v, rfl, rfl, hR⟩ | ⟨he, rfl⟩⟩
  rotate_left
  · have hen := e0 he
    subst hen
    refine died ?_
    exact ⟨st0.rs.trans hT, .inr ⟨he, rfl⟩⟩
  have sc0 := st0.call hR hT
  have q0 := (sc0.m3 0 _ rfl).1
  have f0 := (sc0.m3 0 _ rfl).2
  have st1 : St2 w (W1.setCell ⟨w.heap.size + 1, 0, none⟩ (.int .i64 x0)) g B l r1.p [.int .i64 0, .int .i64 0, .int .i64 0, .int .i64 0, .int .i64 0, .string ⟨#[]⟩, .int .i64 0, .string ⟨#[]⟩, .int .i64 0] [.int .i64 x0, .int .i64 0, .int .i64 0, .int .i64 0, .int .i64 0, .string ⟨#[]⟩, .int .i64 0, .string ⟨#[]⟩, .int .i64 0] := sc0.put 0 [.int .i64 x0] (by simp)
  clear k0 e0 st0 sc0 hR hT
  go_wp2_with fail
  generalize W1.setCell ⟨w.heap.size + 1, 0, none⟩ (.int .i64 x0) = W2 at *
  clear q0 f0
  refine (k1 _ st1.rd z1).mono ?_
  rintro e W3 ⟨hT, ⟨z2, v, rfl, rfl, hR⟩ | ⟨he, rfl⟩⟩
  rotate_left
  · have hen := e1 he
    subst hen
    refine died ?_
    exact ⟨st1.rs.trans hT, .inr ⟨he, rfl⟩⟩
  have sc1 := st1.call hR hT
  have hth1 : W3.there (w.heap.size + 1) 1 4 := sc1.there 1 4 (by simp)
  have s2 : St2 w (W3.setCells (w.heap.size + 1) 1 [.int .i64 x1.s, .int .i64 x1.c, .int .i64 x1.i, .int .i64 x1.k]) g B l r2.p [.int .i64 0, .int .i64 0, .int .i64 0, .int .i64 0, .int .i64 0, .string ⟨#[]⟩, .int .i64 0, .string ⟨#[]⟩, .int .i64 0] [.int .i64 x0, .int .i64 x1.s, .int .i64 x1.c, .int .i64 x1.i, .int .i64 x1.k, .string ⟨#[]⟩, .int .i64 0, .string ⟨#[]⟩, .int .i64 0] := sc1.put 1 [.int .i64 x1.s, .int .i64 x1.c, .int .i64 x1.i, .int .i64 x1.k] (by simp)
  clear k1 e1 st1 hR
  clear hT
  obtain ⟨W4, hW4⟩ : ∃ W', W3.setCells (w.heap.size + 1) 1 [.int .i64 x1.s, .int .i64 x1.c, .int .i64 x1.i, .int .i64 x1.k] = W' := ⟨_, rfl⟩
  rw [hW4] at s2
  have st2 := s2
  clear s2 sc1
  have h11 : ∀ v ∈ ([.int .i64 x1.s, .int .i64 x1.c, .int .i64 x1.i, .int .i64 x1.k] : List Value), v.oneCell' = true := by intro v hv; simp at hv; rcases hv with rfl | rfl | rfl | rfl <;> rfl
  go_wp2_with (first | (refine wpList_store_midw rfl _ _ rfl (w.heap.size + 1) 1 rfl [.int .i64 x1.s, .int .i64 x1.c, .int .i64 x1.i, .int .i64 x1.k] rfl hth1 hi4L h11 hW4 ?_) | fail)
  clear hth1 hW4
  refine (k2 _ st2.rd z2).mono ?_
  rintro e W5 ⟨hT, ⟨z3, v, rfl, rfl, hR⟩ | ⟨he, rfl⟩⟩
  rotate_left
  · have hen := e2 he
    subst hen
    refine died ?_
    exact ⟨st2.rs.trans hT, .inr ⟨he, rfl⟩⟩
  have sc2 := st2.call hR hT
  have q2 := (sc2.m3 5 _ rfl).1
  have f2 := (sc2.m3 5 _ rfl).2
  have st3 : St2 w (W5.setCell ⟨w.heap.size + 1, 5, none⟩ (.string x2)) g B l r3.p [.int .i64 0, .int .i64 0, .int .i64 0, .int .i64 0, .int .i64 0, .string ⟨#[]⟩, .int .i64 0, .string ⟨#[]⟩, .int .i64 0] [.int .i64 x0, .int .i64 x1.s, .int .i64 x1.c, .int .i64 x1.i, .int .i64 x1.k, .string x2, .int .i64 0, .string ⟨#[]⟩, .int .i64 0] := sc2.put 5 [.string x2] (by simp)
  clear k2 e2 st2 sc2 hR hT
  go_wp2_with fail
  generalize W5.setCell ⟨w.heap.size + 1, 5, none⟩ (.string x2) = W6 at *
  clear q2 f2
  refine (k3 _ st3.rd z3).mono ?_
  rintro e W7 ⟨hT, ⟨z4, v, rfl, rfl, hR⟩ | ⟨he, rfl⟩⟩
  rotate_left
  · have hen := e3 he
    subst hen
    refine died ?_
    exact ⟨st3.rs.trans hT, .inr ⟨he, rfl⟩⟩
  have sc3 := st3.call hR hT
  have q3 := (sc3.m3 6 _ rfl).1
  have f3 := (sc3.m3 6 _ rfl).2
  have st4 : St2 w (W7.setCell ⟨w.heap.size + 1, 6, none⟩ (.int .i64 (x3 : Int))) g B l r4.p [.int .i64 0, .int .i64 0, .int .i64 0, .int .i64 0, .int .i64 0, .string ⟨#[]⟩, .int .i64 0, .string ⟨#[]⟩, .int .i64 0] [.int .i64 x0, .int .i64 x1.s, .int .i64 x1.c, .int .i64 x1.i, .int .i64 x1.k, .string x2, .int .i64 (x3 : Int), .string ⟨#[]⟩, .int .i64 0] := sc3.put 6 [.int .i64 (x3 : Int)] (by simp)
  clear k3 e3 st3 sc3 hR hT
  go_wp2_with fail
  generalize W7.setCell ⟨w.heap.size + 1, 6, none⟩ (.int .i64 (x3 : Int)) = W8 at *
  clear q3 f3
  refine (k4 _ st4.rd z4).mono ?_
  rintro e W9 ⟨hT, ⟨z5, v, rfl, rfl, hR⟩ | ⟨he, rfl⟩⟩
  rotate_left
  · have hen := e4 he
    subst hen
    refine died ?_
    exact ⟨st4.rs.trans hT, .inr ⟨he, rfl⟩⟩
  have sc4 := st4.call hR hT
  have q4 := (sc4.m3 7 _ rfl).1
  have f4 := (sc4.m3 7 _ rfl).2
  have st5 : St2 w (W9.setCell ⟨w.heap.size + 1, 7, none⟩ (.string x4)) g B l r5.p [.int .i64 0, .int .i64 0, .int .i64 0, .int .i64 0, .int .i64 0, .string ⟨#[]⟩, .int .i64 0, .string ⟨#[]⟩, .int .i64 0] [.int .i64 x0, .int .i64 x1.s, .int .i64 x1.c, .int .i64 x1.i, .int .i64 x1.k, .string x2, .int .i64 (x3 : Int), .string x4, .int .i64 0] := sc4.put 7 [.string x4] (by simp)
  clear k4 e4 st4 sc4 hR hT
  go_wp2_with fail
  generalize W9.setCell ⟨w.heap.size + 1, 7, none⟩ (.string x4) = W10 at *
  clear q4 f4
  refine (k5 _ st5.rd z5).mono ?_
  rintro e W11 ⟨hT, ⟨z6, v, rfl, rfl, hR⟩ | ⟨he, rfl⟩⟩
  rotate_left
  · refine died ?_
    exact ⟨st5.rs.trans hT, .inr ⟨he, rfl⟩⟩
  have sc5 := st5.call hR hT
  have q5 := (sc5.m3 8 _ rfl).1
  have f5 := (sc5.m3 8 _ rfl).2
  have st6 : St2 w (W11.setCell ⟨w.heap.size + 1, 8, none⟩ (.int .i64 (x5 : Int))) g B l r6.p [.int .i64 0, .int .i64 0, .int .i64 0, .int .i64 0, .int .i64 0, .string ⟨#[]⟩, .int .i64 0, .string ⟨#[]⟩, .int .i64 0] [.int .i64 x0, .int .i64 x1.s, .int .i64 x1.c, .int .i64 x1.i, .int .i64 x1.k, .string x2, .int .i64 (x3 : Int), .string x4, .int .i64 (x5 : Int)] := sc5.put 8 [.int .i64 (x5 : Int)] (by simp)
  clear k5 e5 st5 sc5 hR hT
  obtain ⟨cs, hcs⟩ : ∃ cs : List Value, [.int .i64 x0, .int .i64 x1.s, .int .i64 x1.c, .int .i64 x1.i, .int .i64 x1.k, .string x2, .int .i64 (x3 : Int), .string x4, .int .i64 (x5 : Int)] = cs := ⟨_, rfl⟩
  have hone : ∀ v ∈ cs, v.oneCell' = true := by rw [← hcs]; intro v hv; simp only [List.mem_cons, List.not_mem_nil, or_false] at hv; rcases hv with rfl | rfl | rfl | rfl | rfl | rfl | rfl | rfl | rfl <;> rfl
  have hlen : cs.length = 9 := by rw [← hcs]; rfl
  rw [hcs] at st6
  have hr3 : (W11.setCell ⟨w.heap.size + 1, 8, none⟩ (.int .i64 (x5 : Int))).rangeAt (w.heap.size + 1) 0 cs := st6.m3.range
  have ht2 : (W11.setCell ⟨w.heap.size + 1, 8, none⟩ (.int .i64 (x5 : Int))).there w.heap.size 0 cs.length := by rw [hlen]; exact st6.m2.there
  have fin := st6.out cs (by rw [hlen]; rfl)
  have hi : (Try.prog.info? 48).map (·.size) = some cs.length := by rw [hlen]; kernel_rfl
  obtain ⟨Wz, hWz⟩ : ∃ W', (W11.setCell ⟨w.heap.size + 1, 8, none⟩ (.int .i64 (x5 : Int))).setCells w.heap.size 0 cs = W' := ⟨_, rfl⟩
  rw [hWz] at fin
  clear st6 hlen
  have hcs : Aside ([.int .i64 x0, .int .i64 x1.s, .int .i64 x1.c, .int .i64 x1.i, .int .i64 x1.k, .string x2, .int .i64 (x3 : Int), .string x4, .int .i64 (x5 : Int)] = cs) := hcs
  go_wp2_with (first | (refine wpList_load_row rfl _ rfl (w.heap.size + 1) rfl cs hr3 Try.underlying48 rfl hi ?_) | (refine wpList_store_row rfl _ _ rfl w.heap.size rfl cs rfl ht2 hi hone hWz ?_) | fail)
  refine bodyPost_ret (v := .agg cs.toArray) (results_row1 rfl _ _ w.heap.size rfl cs fin.1 Try.underlying48 rfl hi) rfl ?_
  rw [← hcs.out]
  exact ⟨fin.2.1, .inl ⟨z6, _, rfl, rfl, fin.2.2⟩⟩
end Go.Proofs.Ytecleampjeebaaa
