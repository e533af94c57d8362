/-
  PACKAGE node AS IT LANDED: ParseMessage, ParseEntry, Parse. Written by mk_nparse2.py.
-/
import Derived.Test.YtecleampjeebaaaNodeCatch
namespace Go.Proofs.Ytecleampjeebaaa
open Go.RowKit
set_option linter.unusedSimpArgs false
set_option linter.unusedVariables false

set_option maxRecDepth 8000 in
set_option maxHeartbeats 4000000 in
theorem parseM_any (a : Option Addr) (n cap : Nat) (l : List UInt8) (hn : n < 1000000) (hnc : n ≤ cap) (w : World) (hb : BytesAt w a n l) :
    Calls Try.prog 45 #[.slice a n cap, .func (.func 46) #[] #[]] w fun e w' => e = .returned (.tuple #[(msgP l).v, .int .i64 (msgE l)]) ∧ Below w.heap.size w w' := by
  have hmf : ∀ (fn : Fn) (first cap : Array Value) (w : World), (Instr.makeFunc fn first cap).run Try.prog w = .ok (.func fn first cap) w := fun _ _ _ _ => rfl
  obtain ⟨h0, hr0⟩ := p3_start hn hnc hb #[.string ⟨#[]⟩, .int .i64 0, .int .i64 0, .int .i64 0, .int .i64 0, .string ⟨#[]⟩, .int .i64 0, .int .i64 0, .int .i64 0, .int .i64 0, .string ⟨#[]⟩] 42 36 89
  have c := message_any (w.heap.size + 2) (w.heap.size + 3) l _ hr0
  obtain ⟨zs, hzs⟩ : ∃ zs : List Value, [.string ⟨#[]⟩, .int .i64 0, .int .i64 0, .int .i64 0, .int .i64 0, .string ⟨#[]⟩, .int .i64 0, .int .i64 0, .int .i64 0, .int .i64 0, .string ⟨#[]⟩] = zs := ⟨_, rfl⟩
  rw [show (#[.string ⟨#[]⟩, .int .i64 0, .int .i64 0, .int .i64 0, .int .i64 0, .string ⟨#[]⟩, .int .i64 0, .int .i64 0, .int .i64 0, .int .i64 0, .string ⟨#[]⟩] : Array Value).toList = zs from hzs] at h0
  have hzo : ∀ v ∈ zs, v.oneCell' = true := by rw [← hzs]; intro v hv; simp only [List.mem_cons, List.not_mem_nil, or_false] at hv; rcases hv with rfl | rfl | rfl | rfl | rfl | rfl | rfl | rfl | rfl | rfl | rfl <;> rfl
  have hzl : zs.length = 11 := by rw [← hzs]; rfl
  have hzi : (Try.prog.info? 42).map (·.size) = some zs.length := by rw [hzl]; kernel_rfl
  replace hzs : Aside ([.string ⟨#[]⟩, .int .i64 0, .int .i64 0, .int .i64 0, .int .i64 0, .string ⟨#[]⟩, .int .i64 0, .int .i64 0, .int .i64 0, .int .i64 0, .string ⟨#[]⟩] = zs) := hzs
  clear hr0
  go_enter_defers Try.func45, Try.ntmps45
  go_wp2_with fail
  generalize ((w.alloc (.cells #[.string ⟨#[]⟩, .int .i64 0, .int .i64 0, .int .i64 0, .int .i64 0, .string ⟨#[]⟩, .int .i64 0, .int .i64 0, .int .i64 0, .int .i64 0, .string ⟨#[]⟩] 42)).alloc (.cells #[.int .i64 0] 36)).alloc (.cells #[.slice a n cap] 89) = W0 at *
  refine c.mono ?_
  rintro e W1 ⟨hT, ⟨z, v, rfl, rfl, hR⟩ | ⟨he, rfl⟩⟩
  · have hlast := hR.lt
    obtain ⟨a1, n1, c1, hR⟩ := hR
    obtain ⟨cs, hcs⟩ : ∃ cs : List Value, [.string (msgV l).from_, .int .i64 (msgV l).label.s, .int .i64 (msgV l).label.c, .int .i64 (msgV l).label.i, .int .i64 (msgV l).label.k, .string (msgV l).to_, .int .i64 (msgV l).box.s, .int .i64 (msgV l).box.c, .int .i64 (msgV l).box.i, .int .i64 (msgV l).box.k, .string (msgV l).text] = cs := ⟨_, rfl⟩
    have hco : ∀ v ∈ cs, v.oneCell' = true := by rw [← hcs]; intro v hv; simp only [List.mem_cons, List.not_mem_nil, or_false] at hv; rcases hv with rfl | rfl | rfl | rfl | rfl | rfl | rfl | rfl | rfl | rfl | rfl <;> rfl
    have hcl : cs.length = 11 := by rw [← hcs]; rfl
    have hci : (Try.prog.info? 42).map (·.size) = some cs.length := by rw [hcl]; kernel_rfl
    have h1 := h0.call hT
    obtain ⟨W2, hW2, ht2, hk2, hb2⟩ := put_new W1 #[.string ⟨#[]⟩, .int .i64 0, .int .i64 0, .int .i64 0, .int .i64 0, .string ⟨#[]⟩, .int .i64 0, .int .i64 0, .int .i64 0, .int .i64 0, .string ⟨#[]⟩] 42 cs (by rw [hcl]; rfl) (by omega)
    have h2 := h1.then hb2
    have hR2 := hR.past (hb2.mono hR.hB)
    have hn1 := hR.len
    have hcv : Aside ((.agg #[.string (msgV l).from_, .int .i64 (msgV l).label.s, .int .i64 (msgV l).label.c, .int .i64 (msgV l).label.i, .int .i64 (msgV l).label.k, .string (msgV l).to_, .int .i64 (msgV l).box.s, .int .i64 (msgV l).box.c, .int .i64 (msgV l).box.i, .int .i64 (msgV l).box.k, .string (msgV l).text] : Value) = .agg cs.toArray) := by rw [← hcs]; exact rfl
    replace hcs : Aside ([.string (msgV l).from_, .int .i64 (msgV l).label.s, .int .i64 (msgV l).label.c, .int .i64 (msgV l).label.i, .int .i64 (msgV l).label.k, .string (msgV l).to_, .int .i64 (msgV l).box.s, .int .i64 (msgV l).box.c, .int .i64 (msgV l).box.i, .int .i64 (msgV l).box.k, .string (msgV l).text] = cs) := hcs
    have q2 := hR2.c
    have r3 := hk2.range
    have r0 := h2.m0.range
    have t0 : W2.there w.heap.size 0 cs.length := by rw [hcl, ← hzl]; exact h2.m0.there
    have t0z : W2.there w.heap.size 0 zs.length := h2.m0.there
    have e1 := (h2.m1 0 _ rfl)
    clear c hk2 hR hR2 hT hb2
    by_cases hp : (msgR5 l).p < l.length
    · have hE : msgE l = 9 := if_pos ⟨z, hp⟩
      have hP : msgP l = msgZ := if_neg (by rw [hE]; decide)
      have i1 : (0 : Int) < (n1 : Int) := by omega
      have h3 := h2.all zs rfl
      obtain ⟨W3, hW3⟩ : ∃ W', W2.setCells w.heap.size 0 zs = W' := ⟨_, rfl⟩
      rw [hW3] at h3
      have e3 := (h3.m1 0 _ rfl)
      obtain ⟨hf0, hf1, hfb⟩ := h3.err 9
      clear hn1
      go_wp2_with (first | (refine wpList_store_row rfl _ _ rfl W1.heap.size rfl cs hcv.out ht2 hci hco hW2 ?_) | (refine wpList_load_row rfl _ rfl w.heap.size rfl zs r0 Try.underlying42 rfl hzi ?_) | (refine wpList_store_row rfl _ _ rfl w.heap.size rfl zs rfl t0z hzi hzo hW3 ?_) | fail)
      refine leaves_cons (f := 59) (args := #[.pointer (some ⟨w.heap.size + 1, 0, none⟩)]) (by simp) (by simp [go_sem]) ?_
      refine (catchM_idle ⟨w.heap.size + 1, 0, none⟩ _).mono ?_
      rintro e u' w'' ⟨rfl, rfl, rfl⟩
      refine ⟨_, results_row_cell rfl _ _ w.heap.size (w.heap.size + 1) rfl rfl zs hf0.range Try.underlying42 rfl hzi _ (load_errno _ _ _ hf1), ?_⟩
      rw [← hzs.out, hE, hP]
      exact ⟨rfl, hfb⟩
    · have hE : msgE l = 0 := by
        show endV l (msgR5 l) = 0
        unfold endV
        rw [if_neg (fun q => hp q.2)]
        exact z
      have hP : msgP l = msgV l := if_pos hE
      have i1 : n1 = 0 := by omega
      subst i1
      have h3 := h2.all cs (by omega)
      obtain ⟨W3, hW3⟩ : ∃ W', W2.setCells w.heap.size 0 cs = W' := ⟨_, rfl⟩
      rw [hW3] at h3
      have e3 := (h3.m1 0 _ rfl)
      obtain ⟨hf0, hf1, hfb⟩ := h3.err 0
      clear hn1
      go_wp2_with (first | (refine wpList_store_row rfl _ _ rfl W1.heap.size rfl cs hcv.out ht2 hci hco hW2 ?_) | (refine wpList_load_row rfl _ rfl W1.heap.size rfl cs r3 Try.underlying42 rfl hci ?_) | (refine wpList_store_row rfl _ _ rfl w.heap.size rfl cs rfl t0 hci hco hW3 ?_) | fail)
      refine leaves_cons (f := 59) (args := #[.pointer (some ⟨w.heap.size + 1, 0, none⟩)]) (by simp) (by simp [go_sem]) ?_
      refine (catchM_idle ⟨w.heap.size + 1, 0, none⟩ _).mono ?_
      rintro e u' w'' ⟨rfl, rfl, rfl⟩
      refine ⟨_, results_row_cell rfl _ _ w.heap.size (w.heap.size + 1) rfl rfl cs hf0.range Try.underlying42 rfl hci _ (load_errno _ _ _ hf1), ?_⟩
      rw [← hcs.out, hE, hP]
      exact ⟨rfl, hfb⟩
  · have hE : msgE l = (msgR5 l).err := by
      show endV l (msgR5 l) = _
      unfold endV
      rw [if_neg (fun q => he q.1)]
    have hP : msgP l = msgZ := if_neg (by rw [hE]; exact he)
    have h1 := h0.call hT
    have e1 := (h1.m1 0 _ rfl)
    obtain ⟨hf0, hf1, hfb⟩ := h1.err (msgR5 l).err
    refine leaves_cons (f := 59) (args := #[.pointer (some ⟨w.heap.size + 1, 0, none⟩)]) (by simp) (by simp [go_sem]) ?_
    refine (catchM_panicking ⟨w.heap.size + 1, 0, none⟩ 0 _ _ e1.1 e1.2).mono ?_
    rintro e u' w'' ⟨rfl, rfl, rfl⟩
    refine ⟨_, results_row_cell rfl _ _ w.heap.size (w.heap.size + 1) rfl rfl zs hf0.range Try.underlying42 rfl hzi _ (load_errno _ _ _ hf1), ?_⟩
    rw [← hzs.out, hE, hP]
    exact ⟨rfl, hfb⟩
set_option maxRecDepth 8000 in
set_option maxHeartbeats 4000000 in
theorem nmsg_any (a : Option Addr) (n cap : Nat) (l : List UInt8) (hn : n < 1000000) (hnc : n ≤ cap) (w : World) (hb : BytesAt w a n l) :
    Calls Try.prog 17 #[.slice a n cap] w fun e w' => e = .returned (.tuple #[(msgP l).v, .int .i64 (msgE l)]) ∧ Below w.heap.size w w' := by
  have hB0 := alloc_below w (.cells #[.string ⟨#[]⟩, .int .i64 0, .int .i64 0, .int .i64 0, .int .i64 0, .string ⟨#[]⟩, .int .i64 0, .int .i64 0, .int .i64 0, .int .i64 0, .string ⟨#[]⟩] 42)
  have hk0 := blk_alloc w #[.string ⟨#[]⟩, .int .i64 0, .int .i64 0, .int .i64 0, .int .i64 0, .string ⟨#[]⟩, .int .i64 0, .int .i64 0, .int .i64 0, .int .i64 0, .string ⟨#[]⟩] 42
  have hs0 := World.size_alloc w (.cells #[.string ⟨#[]⟩, .int .i64 0, .int .i64 0, .int .i64 0, .int .i64 0, .string ⟨#[]⟩, .int .i64 0, .int .i64 0, .int .i64 0, .int .i64 0, .string ⟨#[]⟩] 42)
  have c := parseM_any a n cap l hn hnc _ (hb.below hB0)
  go_enter Try.func17, Try.ntmps17
  go_wp2_with fail
  generalize w.alloc (.cells #[.string ⟨#[]⟩, .int .i64 0, .int .i64 0, .int .i64 0, .int .i64 0, .string ⟨#[]⟩, .int .i64 0, .int .i64 0, .int .i64 0, .int .i64 0, .string ⟨#[]⟩] 42) = W0 at *
  refine c.mono ?_
  rintro e W1 ⟨rfl, hB1⟩
  obtain ⟨cs, hcs⟩ : ∃ cs : List Value, [.string (msgP l).from_, .int .i64 (msgP l).label.s, .int .i64 (msgP l).label.c, .int .i64 (msgP l).label.i, .int .i64 (msgP l).label.k, .string (msgP l).to_, .int .i64 (msgP l).box.s, .int .i64 (msgP l).box.c, .int .i64 (msgP l).box.i, .int .i64 (msgP l).box.k, .string (msgP l).text] = cs := ⟨_, rfl⟩
  have hco : ∀ v ∈ cs, v.oneCell' = true := by rw [← hcs]; intro v hv; simp only [List.mem_cons, List.not_mem_nil, or_false] at hv; rcases hv with rfl | rfl | rfl | rfl | rfl | rfl | rfl | rfl | rfl | rfl | rfl <;> rfl
  have hcl : cs.length = 11 := by rw [← hcs]; rfl
  have hci : (Try.prog.info? 42).map (·.size) = some cs.length := by rw [hcl]; kernel_rfl
  have hk1 := hk0.same (hB1.block _ (by omega))
  have ht : W1.there w.heap.size 0 cs.length := by rw [hcl]; exact hk1.there
  have hk2 := hk1.setAll (cs := cs) (by rw [hcl]; rfl)
  obtain ⟨W2, hW2⟩ : ∃ W', W1.setCells w.heap.size 0 cs = W' := ⟨_, rfl⟩
  have hBz : Below w.heap.size w W2 := by rw [← hW2]; exact Below.cells (Nat.le_refl _) cs 0 (Below.then hB0 hB1)
  rw [hW2] at hk2
  have hcv : Aside ((.agg #[.string (msgP l).from_, .int .i64 (msgP l).label.s, .int .i64 (msgP l).label.c, .int .i64 (msgP l).label.i, .int .i64 (msgP l).label.k, .string (msgP l).to_, .int .i64 (msgP l).box.s, .int .i64 (msgP l).box.c, .int .i64 (msgP l).box.i, .int .i64 (msgP l).box.k, .string (msgP l).text] : Value) = .agg cs.toArray) := by rw [← hcs]; exact rfl
  replace hcs : Aside ([.string (msgP l).from_, .int .i64 (msgP l).label.s, .int .i64 (msgP l).label.c, .int .i64 (msgP l).label.i, .int .i64 (msgP l).label.k, .string (msgP l).to_, .int .i64 (msgP l).box.s, .int .i64 (msgP l).box.c, .int .i64 (msgP l).box.i, .int .i64 (msgP l).box.k, .string (msgP l).text] = cs) := hcs
  clear c hk0 hk1 hs0
  go_wp2_with (first | (refine wpList_store_row rfl _ _ rfl w.heap.size rfl cs hcv.out ht hci hco hW2 ?_) | fail)
  refine bodyPost_ret (v := .tuple #[.agg cs.toArray, .int .i64 (msgE l)]) (results_row2 rfl _ _ w.heap.size rfl (.int .i64 (msgE l)) rfl cs hk2.range Try.underlying42 rfl hci) rfl ?_
  rw [← hcs.out]
  exact ⟨rfl, hBz⟩
set_option maxRecDepth 8000 in
set_option maxHeartbeats 4000000 in
theorem parseE_any (a : Option Addr) (n cap : Nat) (l : List UInt8) (hn : n < 1000000) (hnc : n ≤ cap) (w : World) (hb : BytesAt w a n l) :
    Calls Try.prog 47 #[.slice a n cap, .func (.func 48) #[] #[]] w fun e w' => e = .returned (.tuple #[(entP l).v, .int .i64 (entE l)]) ∧ Below w.heap.size w w' := by
  have hmf : ∀ (fn : Fn) (first cap : Array Value) (w : World), (Instr.makeFunc fn first cap).run Try.prog w = .ok (.func fn first cap) w := fun _ _ _ _ => rfl
  obtain ⟨h0, hr0⟩ := p3_start hn hnc hb #[.int .i64 0, .int .i64 0, .int .i64 0, .int .i64 0, .int .i64 0, .string ⟨#[]⟩, .int .i64 0, .string ⟨#[]⟩, .int .i64 0] 48 36 89
  have c := entry_any (w.heap.size + 2) (w.heap.size + 3) l _ hr0
  obtain ⟨zs, hzs⟩ : ∃ zs : List Value, [.int .i64 0, .int .i64 0, .int .i64 0, .int .i64 0, .int .i64 0, .string ⟨#[]⟩, .int .i64 0, .string ⟨#[]⟩, .int .i64 0] = zs := ⟨_, rfl⟩
  rw [show (#[.int .i64 0, .int .i64 0, .int .i64 0, .int .i64 0, .int .i64 0, .string ⟨#[]⟩, .int .i64 0, .string ⟨#[]⟩, .int .i64 0] : Array Value).toList = zs from hzs] at h0
  have hzo : ∀ v ∈ zs, v.oneCell' = true := by rw [← hzs]; intro v hv; simp only [List.mem_cons, List.not_mem_nil, or_false] at hv; rcases hv with rfl | rfl | rfl | rfl | rfl | rfl | rfl | rfl | rfl <;> rfl
  have hzl : zs.length = 9 := by rw [← hzs]; rfl
  have hzi : (Try.prog.info? 48).map (·.size) = some zs.length := by rw [hzl]; kernel_rfl
  replace hzs : Aside ([.int .i64 0, .int .i64 0, .int .i64 0, .int .i64 0, .int .i64 0, .string ⟨#[]⟩, .int .i64 0, .string ⟨#[]⟩, .int .i64 0] = zs) := hzs
  clear hr0
  go_enter_defers Try.func47, Try.ntmps47
  go_wp2_with fail
  generalize ((w.alloc (.cells #[.int .i64 0, .int .i64 0, .int .i64 0, .int .i64 0, .int .i64 0, .string ⟨#[]⟩, .int .i64 0, .string ⟨#[]⟩, .int .i64 0] 48)).alloc (.cells #[.int .i64 0] 36)).alloc (.cells #[.slice a n cap] 89) = W0 at *
  refine c.mono ?_
  rintro e W1 ⟨hT, ⟨z, v, rfl, rfl, hR⟩ | ⟨he, rfl⟩⟩
  · have hlast := hR.lt
    obtain ⟨a1, n1, c1, hR⟩ := hR
    obtain ⟨cs, hcs⟩ : ∃ cs : List Value, [.int .i64 (entV l).seq, .int .i64 (entV l).label.s, .int .i64 (entV l).label.c, .int .i64 (entV l).label.i, .int .i64 (entV l).label.k, .string (entV l).user, .int .i64 (entV l).verb, .string (entV l).object, .int .i64 (entV l).verdict] = cs := ⟨_, rfl⟩
    have hco : ∀ v ∈ cs, v.oneCell' = true := by rw [← hcs]; intro v hv; simp only [List.mem_cons, List.not_mem_nil, or_false] at hv; rcases hv with rfl | rfl | rfl | rfl | rfl | rfl | rfl | rfl | rfl <;> rfl
    have hcl : cs.length = 9 := by rw [← hcs]; rfl
    have hci : (Try.prog.info? 48).map (·.size) = some cs.length := by rw [hcl]; kernel_rfl
    have h1 := h0.call hT
    obtain ⟨W2, hW2, ht2, hk2, hb2⟩ := put_new W1 #[.int .i64 0, .int .i64 0, .int .i64 0, .int .i64 0, .int .i64 0, .string ⟨#[]⟩, .int .i64 0, .string ⟨#[]⟩, .int .i64 0] 48 cs (by rw [hcl]; rfl) (by omega)
    have h2 := h1.then hb2
    have hR2 := hR.past (hb2.mono hR.hB)
    have hn1 := hR.len
    have hcv : Aside ((.agg #[.int .i64 (entV l).seq, .int .i64 (entV l).label.s, .int .i64 (entV l).label.c, .int .i64 (entV l).label.i, .int .i64 (entV l).label.k, .string (entV l).user, .int .i64 (entV l).verb, .string (entV l).object, .int .i64 (entV l).verdict] : Value) = .agg cs.toArray) := by rw [← hcs]; exact rfl
    replace hcs : Aside ([.int .i64 (entV l).seq, .int .i64 (entV l).label.s, .int .i64 (entV l).label.c, .int .i64 (entV l).label.i, .int .i64 (entV l).label.k, .string (entV l).user, .int .i64 (entV l).verb, .string (entV l).object, .int .i64 (entV l).verdict] = cs) := hcs
    have q2 := hR2.c
    have r3 := hk2.range
    have r0 := h2.m0.range
    have t0 : W2.there w.heap.size 0 cs.length := by rw [hcl, ← hzl]; exact h2.m0.there
    have t0z : W2.there w.heap.size 0 zs.length := h2.m0.there
    have e1 := (h2.m1 0 _ rfl)
    clear c hk2 hR hR2 hT hb2
    by_cases hp : (entR6 l).p < l.length
    · have hE : entE l = 9 := if_pos ⟨z, hp⟩
      have hP : entP l = entZ := if_neg (by rw [hE]; decide)
      have i1 : (0 : Int) < (n1 : Int) := by omega
      have h3 := h2.all zs rfl
      obtain ⟨W3, hW3⟩ : ∃ W', W2.setCells w.heap.size 0 zs = W' := ⟨_, rfl⟩
      rw [hW3] at h3
      have e3 := (h3.m1 0 _ rfl)
      obtain ⟨hf0, hf1, hfb⟩ := h3.err 9
      clear hn1
      go_wp2_with (first | (refine wpList_store_row rfl _ _ rfl W1.heap.size rfl cs hcv.out ht2 hci hco hW2 ?_) | (refine wpList_load_row rfl _ rfl w.heap.size rfl zs r0 Try.underlying48 rfl hzi ?_) | (refine wpList_store_row rfl _ _ rfl w.heap.size rfl zs rfl t0z hzi hzo hW3 ?_) | fail)
      refine leaves_cons (f := 60) (args := #[.pointer (some ⟨w.heap.size + 1, 0, none⟩)]) (by simp) (by simp [go_sem]) ?_
      refine (catchE_idle ⟨w.heap.size + 1, 0, none⟩ _).mono ?_
      rintro e u' w'' ⟨rfl, rfl, rfl⟩
      refine ⟨_, results_row_cell rfl _ _ w.heap.size (w.heap.size + 1) rfl rfl zs hf0.range Try.underlying48 rfl hzi _ (load_errno _ _ _ hf1), ?_⟩
      rw [← hzs.out, hE, hP]
      exact ⟨rfl, hfb⟩
    · have hE : entE l = 0 := by
        show endV l (entR6 l) = 0
        unfold endV
        rw [if_neg (fun q => hp q.2)]
        exact z
      have hP : entP l = entV l := if_pos hE
      have i1 : n1 = 0 := by omega
      subst i1
      have h3 := h2.all cs (by omega)
      obtain ⟨W3, hW3⟩ : ∃ W', W2.setCells w.heap.size 0 cs = W' := ⟨_, rfl⟩
      rw [hW3] at h3
      have e3 := (h3.m1 0 _ rfl)
      obtain ⟨hf0, hf1, hfb⟩ := h3.err 0
      clear hn1
      go_wp2_with (first | (refine wpList_store_row rfl _ _ rfl W1.heap.size rfl cs hcv.out ht2 hci hco hW2 ?_) | (refine wpList_load_row rfl _ rfl W1.heap.size rfl cs r3 Try.underlying48 rfl hci ?_) | (refine wpList_store_row rfl _ _ rfl w.heap.size rfl cs rfl t0 hci hco hW3 ?_) | fail)
      refine leaves_cons (f := 60) (args := #[.pointer (some ⟨w.heap.size + 1, 0, none⟩)]) (by simp) (by simp [go_sem]) ?_
      refine (catchE_idle ⟨w.heap.size + 1, 0, none⟩ _).mono ?_
      rintro e u' w'' ⟨rfl, rfl, rfl⟩
      refine ⟨_, results_row_cell rfl _ _ w.heap.size (w.heap.size + 1) rfl rfl cs hf0.range Try.underlying48 rfl hci _ (load_errno _ _ _ hf1), ?_⟩
      rw [← hcs.out, hE, hP]
      exact ⟨rfl, hfb⟩
  · have hE : entE l = (entR6 l).err := by
      show endV l (entR6 l) = _
      unfold endV
      rw [if_neg (fun q => he q.1)]
    have hP : entP l = entZ := if_neg (by rw [hE]; exact he)
    have h1 := h0.call hT
    have e1 := (h1.m1 0 _ rfl)
    obtain ⟨hf0, hf1, hfb⟩ := h1.err (entR6 l).err
    refine leaves_cons (f := 60) (args := #[.pointer (some ⟨w.heap.size + 1, 0, none⟩)]) (by simp) (by simp [go_sem]) ?_
    refine (catchE_panicking ⟨w.heap.size + 1, 0, none⟩ 0 _ _ e1.1 e1.2).mono ?_
    rintro e u' w'' ⟨rfl, rfl, rfl⟩
    refine ⟨_, results_row_cell rfl _ _ w.heap.size (w.heap.size + 1) rfl rfl zs hf0.range Try.underlying48 rfl hzi _ (load_errno _ _ _ hf1), ?_⟩
    rw [← hzs.out, hE, hP]
    exact ⟨rfl, hfb⟩
set_option maxRecDepth 8000 in
set_option maxHeartbeats 4000000 in
theorem nent_any (a : Option Addr) (n cap : Nat) (l : List UInt8) (hn : n < 1000000) (hnc : n ≤ cap) (w : World) (hb : BytesAt w a n l) :
    Calls Try.prog 19 #[.slice a n cap] w fun e w' => e = .returned (.tuple #[(entP l).v, .int .i64 (entE l)]) ∧ Below w.heap.size w w' := by
  have hB0 := alloc_below w (.cells #[.int .i64 0, .int .i64 0, .int .i64 0, .int .i64 0, .int .i64 0, .string ⟨#[]⟩, .int .i64 0, .string ⟨#[]⟩, .int .i64 0] 48)
  have hk0 := blk_alloc w #[.int .i64 0, .int .i64 0, .int .i64 0, .int .i64 0, .int .i64 0, .string ⟨#[]⟩, .int .i64 0, .string ⟨#[]⟩, .int .i64 0] 48
  have hs0 := World.size_alloc w (.cells #[.int .i64 0, .int .i64 0, .int .i64 0, .int .i64 0, .int .i64 0, .string ⟨#[]⟩, .int .i64 0, .string ⟨#[]⟩, .int .i64 0] 48)
  have c := parseE_any a n cap l hn hnc _ (hb.below hB0)
  go_enter Try.func19, Try.ntmps19
  go_wp2_with fail
  generalize w.alloc (.cells #[.int .i64 0, .int .i64 0, .int .i64 0, .int .i64 0, .int .i64 0, .string ⟨#[]⟩, .int .i64 0, .string ⟨#[]⟩, .int .i64 0] 48) = W0 at *
  refine c.mono ?_
  rintro e W1 ⟨rfl, hB1⟩
  obtain ⟨cs, hcs⟩ : ∃ cs : List Value, [.int .i64 (entP l).seq, .int .i64 (entP l).label.s, .int .i64 (entP l).label.c, .int .i64 (entP l).label.i, .int .i64 (entP l).label.k, .string (entP l).user, .int .i64 (entP l).verb, .string (entP l).object, .int .i64 (entP l).verdict] = cs := ⟨_, rfl⟩
  have hco : ∀ v ∈ cs, v.oneCell' = true := by rw [← hcs]; intro v hv; simp only [List.mem_cons, List.not_mem_nil, or_false] at hv; rcases hv with rfl | rfl | rfl | rfl | rfl | rfl | rfl | rfl | rfl <;> rfl
  have hcl : cs.length = 9 := by rw [← hcs]; rfl
  have hci : (Try.prog.info? 48).map (·.size) = some cs.length := by rw [hcl]; kernel_rfl
  have hk1 := hk0.same (hB1.block _ (by omega))
  have ht : W1.there w.heap.size 0 cs.length := by rw [hcl]; exact hk1.there
  have hk2 := hk1.setAll (cs := cs) (by rw [hcl]; rfl)
  obtain ⟨W2, hW2⟩ : ∃ W', W1.setCells w.heap.size 0 cs = W' := ⟨_, rfl⟩
  have hBz : Below w.heap.size w W2 := by rw [← hW2]; exact Below.cells (Nat.le_refl _) cs 0 (Below.then hB0 hB1)
  rw [hW2] at hk2
  have hcv : Aside ((.agg #[.int .i64 (entP l).seq, .int .i64 (entP l).label.s, .int .i64 (entP l).label.c, .int .i64 (entP l).label.i, .int .i64 (entP l).label.k, .string (entP l).user, .int .i64 (entP l).verb, .string (entP l).object, .int .i64 (entP l).verdict] : Value) = .agg cs.toArray) := by rw [← hcs]; exact rfl
  replace hcs : Aside ([.int .i64 (entP l).seq, .int .i64 (entP l).label.s, .int .i64 (entP l).label.c, .int .i64 (entP l).label.i, .int .i64 (entP l).label.k, .string (entP l).user, .int .i64 (entP l).verb, .string (entP l).object, .int .i64 (entP l).verdict] = cs) := hcs
  clear c hk0 hk1 hs0
  go_wp2_with (first | (refine wpList_store_row rfl _ _ rfl w.heap.size rfl cs hcv.out ht hci hco hW2 ?_) | fail)
  refine bodyPost_ret (v := .tuple #[.agg cs.toArray, .int .i64 (entE l)]) (results_row2 rfl _ _ w.heap.size rfl (.int .i64 (entE l)) rfl cs hk2.range Try.underlying48 rfl hci) rfl ?_
  rw [← hcs.out]
  exact ⟨rfl, hBz⟩
set_option maxRecDepth 8000 in
set_option maxHeartbeats 4000000 in
theorem parseN_any (a : Option Addr) (n cap : Nat) (l : List UInt8) (hn : n < 1000000) (hnc : n ≤ cap) (w : World) (hb : BytesAt w a n l) :
    Calls Try.prog 35 #[.slice a n cap, .func (.func 36) #[] #[]] w fun e w' => ∃ va vw, e = .returned (.tuple #[(nodP l).vv va vw, .int .i64 (nodE l)]) ∧ OwnG w' w.heap.size va (nodP l).acl ∧ OwnW w' w.heap.size vw (nodP l).words ∧ Below w.heap.size w w' := by
  have hmf : ∀ (fn : Fn) (first cap : Array Value) (w : World), (Instr.makeFunc fn first cap).run Try.prog w = .ok (.func fn first cap) w := fun _ _ _ _ => rfl
  obtain ⟨h0, hr0⟩ := p3_start hn hnc hb #[.string ⟨#[]⟩, .bool false, .int .i64 0, .int .i64 0, .int .i64 0, .int .i64 0, .slice none 0 0, .int .i64 0, .int .i64 0, .int .i64 0, .int .i64 0, .slice none 0 0, .int .i64 0, .int .i64 0, .int .i64 0, .int .i64 0] 29 36 89
  have c := node_any (w.heap.size + 2) (w.heap.size + 3) l _ hr0
  obtain ⟨zs, hzs⟩ : ∃ zs : List Value, [.string ⟨#[]⟩, .bool false, .int .i64 0, .int .i64 0, .int .i64 0, .int .i64 0, .slice none 0 0, .int .i64 0, .int .i64 0, .int .i64 0, .int .i64 0, .slice none 0 0, .int .i64 0, .int .i64 0, .int .i64 0, .int .i64 0] = zs := ⟨_, rfl⟩
  rw [show (#[.string ⟨#[]⟩, .bool false, .int .i64 0, .int .i64 0, .int .i64 0, .int .i64 0, .slice none 0 0, .int .i64 0, .int .i64 0, .int .i64 0, .int .i64 0, .slice none 0 0, .int .i64 0, .int .i64 0, .int .i64 0, .int .i64 0] : Array Value).toList = zs from hzs] at h0
  have hzo : ∀ v ∈ zs, v.oneCell' = true := by rw [← hzs]; intro v hv; simp only [List.mem_cons, List.not_mem_nil, or_false] at hv; rcases hv with rfl | rfl | rfl | rfl | rfl | rfl | rfl | rfl | rfl | rfl | rfl | rfl | rfl | rfl | rfl | rfl <;> rfl
  have hzl : zs.length = 16 := by rw [← hzs]; rfl
  have hzi : (Try.prog.info? 29).map (·.size) = some zs.length := by rw [hzl]; kernel_rfl
  replace hzs : Aside ([.string ⟨#[]⟩, .bool false, .int .i64 0, .int .i64 0, .int .i64 0, .int .i64 0, .slice none 0 0, .int .i64 0, .int .i64 0, .int .i64 0, .int .i64 0, .slice none 0 0, .int .i64 0, .int .i64 0, .int .i64 0, .int .i64 0] = zs) := hzs
  clear hr0
  go_enter_defers Try.func35, Try.ntmps35
  go_wp2_with fail
  generalize ((w.alloc (.cells #[.string ⟨#[]⟩, .bool false, .int .i64 0, .int .i64 0, .int .i64 0, .int .i64 0, .slice none 0 0, .int .i64 0, .int .i64 0, .int .i64 0, .int .i64 0, .slice none 0 0, .int .i64 0, .int .i64 0, .int .i64 0, .int .i64 0] 29)).alloc (.cells #[.int .i64 0] 36)).alloc (.cells #[.slice a n cap] 89) = W0 at *
  refine c.mono ?_
  rintro e W1 ⟨hT, ⟨z, v, rfl, ⟨va, vw, rfl, oa, ow⟩, hR⟩ | ⟨he, rfl⟩⟩
  · have hlast := hR.lt
    obtain ⟨a1, n1, c1, hR⟩ := hR
    obtain ⟨aa, ca, hva, -, -, -⟩ := OwnR.slice gr_ok.len oa
    obtain ⟨aw, cw, hvw, -, -, -⟩ := OwnR.slice wd_ok.len ow
    subst hva hvw
    obtain ⟨cs, hcs⟩ : ∃ cs : List Value, [.string (nodV l).path, .bool (nodV l).dir, .int .i64 (nodV l).label.s, .int .i64 (nodV l).label.c, .int .i64 (nodV l).label.i, .int .i64 (nodV l).label.k, .slice aa (nodV l).acl.length ca, .int .i64 (nodV l).r1, .int .i64 (nodV l).r2, .int .i64 (nodV l).r3, .int .i64 (nodV l).gates, .slice aw (nodV l).words.length cw, .int .i64 (nodV l).by_.s, .int .i64 (nodV l).by_.c, .int .i64 (nodV l).by_.i, .int .i64 (nodV l).by_.k] = cs := ⟨_, rfl⟩
    have hco : ∀ v ∈ cs, v.oneCell' = true := by rw [← hcs]; intro v hv; simp only [List.mem_cons, List.not_mem_nil, or_false] at hv; rcases hv with rfl | rfl | rfl | rfl | rfl | rfl | rfl | rfl | rfl | rfl | rfl | rfl | rfl | rfl | rfl | rfl <;> rfl
    have hcl : cs.length = 16 := by rw [← hcs]; rfl
    have hci : (Try.prog.info? 29).map (·.size) = some cs.length := by rw [hcl]; kernel_rfl
    have h1 := h0.call hT
    obtain ⟨W2, hW2, ht2, hk2, hb2⟩ := put_new W1 #[.string ⟨#[]⟩, .bool false, .int .i64 0, .int .i64 0, .int .i64 0, .int .i64 0, .slice none 0 0, .int .i64 0, .int .i64 0, .int .i64 0, .int .i64 0, .slice none 0 0, .int .i64 0, .int .i64 0, .int .i64 0, .int .i64 0] 29 cs (by rw [hcl]; rfl) (by omega)
    have h2 := h1.then hb2
    have hR2 := hR.past (hb2.mono hR.hB)
    have hn1 := hR.len
    have oa2 := oa.below hb2
    have ow2 := ow.below hb2
    have hcv : Aside ((.agg #[.string (nodV l).path, .bool (nodV l).dir, .int .i64 (nodV l).label.s, .int .i64 (nodV l).label.c, .int .i64 (nodV l).label.i, .int .i64 (nodV l).label.k, .slice aa (nodV l).acl.length ca, .int .i64 (nodV l).r1, .int .i64 (nodV l).r2, .int .i64 (nodV l).r3, .int .i64 (nodV l).gates, .slice aw (nodV l).words.length cw, .int .i64 (nodV l).by_.s, .int .i64 (nodV l).by_.c, .int .i64 (nodV l).by_.i, .int .i64 (nodV l).by_.k] : Value) = .agg cs.toArray) := by rw [← hcs]; exact rfl
    replace hcs : Aside ([.string (nodV l).path, .bool (nodV l).dir, .int .i64 (nodV l).label.s, .int .i64 (nodV l).label.c, .int .i64 (nodV l).label.i, .int .i64 (nodV l).label.k, .slice aa (nodV l).acl.length ca, .int .i64 (nodV l).r1, .int .i64 (nodV l).r2, .int .i64 (nodV l).r3, .int .i64 (nodV l).gates, .slice aw (nodV l).words.length cw, .int .i64 (nodV l).by_.s, .int .i64 (nodV l).by_.c, .int .i64 (nodV l).by_.i, .int .i64 (nodV l).by_.k] = cs) := hcs
    have q2 := hR2.c
    have r3 := hk2.range
    have r0 := h2.m0.range
    have t0 : W2.there w.heap.size 0 cs.length := by rw [hcl, ← hzl]; exact h2.m0.there
    have t0z : W2.there w.heap.size 0 zs.length := h2.m0.there
    have e1 := (h2.m1 0 _ rfl)
    clear c hk2 hR hR2 hT hb2
    by_cases hp : (nodR12 l).p < l.length
    · have hE : nodE l = 9 := if_pos ⟨z, hp⟩
      have hP : nodP l = nodZ := if_neg (by rw [hE]; decide)
      have i1 : (0 : Int) < (n1 : Int) := by omega
      have h3 := h2.all zs rfl
      obtain ⟨W3, hW3⟩ : ∃ W', W2.setCells w.heap.size 0 zs = W' := ⟨_, rfl⟩
      rw [hW3] at h3
      have e3 := (h3.m1 0 _ rfl)
      obtain ⟨hf0, hf1, hfb⟩ := h3.err 9
      clear hn1
      go_wp2_with (first | (refine wpList_store_row rfl _ _ rfl W1.heap.size rfl cs hcv.out ht2 hci hco hW2 ?_) | (refine wpList_load_row rfl _ rfl w.heap.size rfl zs r0 Try.underlying29 rfl hzi ?_) | (refine wpList_store_row rfl _ _ rfl w.heap.size rfl zs rfl t0z hzi hzo hW3 ?_) | fail)
      refine leaves_cons (f := 52) (args := #[.pointer (some ⟨w.heap.size + 1, 0, none⟩)]) (by simp) (by simp [go_sem]) ?_
      refine (catchN_idle ⟨w.heap.size + 1, 0, none⟩ _).mono ?_
      rintro e u' w'' ⟨rfl, rfl, rfl⟩
      refine ⟨_, results_row_cell rfl _ _ w.heap.size (w.heap.size + 1) rfl rfl zs hf0.range Try.underlying29 rfl hzi _ (load_errno _ _ _ hf1), ?_⟩
      rw [← hzs.out, hE, hP]
      exact ⟨.slice none 0 0, .slice none 0 0, rfl, OwnR.nil _ _ _ _ _, OwnR.nil _ _ _ _ _, hfb⟩
    · have hE : nodE l = 0 := by
        show endV l (nodR12 l) = 0
        unfold endV
        rw [if_neg (fun q => hp q.2)]
        exact z
      have hP : nodP l = nodV l := if_pos hE
      have i1 : n1 = 0 := by omega
      subst i1
      have h3 := h2.all cs (by omega)
      obtain ⟨W3, hW3⟩ : ∃ W', W2.setCells w.heap.size 0 cs = W' := ⟨_, rfl⟩
      rw [hW3] at h3
      have e3 := (h3.m1 0 _ rfl)
      obtain ⟨hf0, hf1, hfb⟩ := h3.err 0
      clear hn1
      have oaz := ((oa2.lower (show w.heap.size + 3 ≤ W0.heap.size from h0.sz)).setMid (show w.heap.size < w.heap.size + 3 by omega) 0 cs).setMid (show w.heap.size + 1 < w.heap.size + 3 by omega) 0 [.int .i64 0]
      have owz := ((ow2.lower (show w.heap.size + 3 ≤ W0.heap.size from h0.sz)).setMid (show w.heap.size < w.heap.size + 3 by omega) 0 cs).setMid (show w.heap.size + 1 < w.heap.size + 3 by omega) 0 [.int .i64 0]
      rw [hW3] at oaz owz
      change OwnR _ _ _ (W3.setCell ⟨w.heap.size + 1, 0, none⟩ (.int .i64 0)) _ _ _ at oaz
      change OwnR _ _ _ (W3.setCell ⟨w.heap.size + 1, 0, none⟩ (.int .i64 0)) _ _ _ at owz
      go_wp2_with (first | (refine wpList_store_row rfl _ _ rfl W1.heap.size rfl cs hcv.out ht2 hci hco hW2 ?_) | (refine wpList_load_row rfl _ rfl W1.heap.size rfl cs r3 Try.underlying29 rfl hci ?_) | (refine wpList_store_row rfl _ _ rfl w.heap.size rfl cs rfl t0 hci hco hW3 ?_) | fail)
      refine leaves_cons (f := 52) (args := #[.pointer (some ⟨w.heap.size + 1, 0, none⟩)]) (by simp) (by simp [go_sem]) ?_
      refine (catchN_idle ⟨w.heap.size + 1, 0, none⟩ _).mono ?_
      rintro e u' w'' ⟨rfl, rfl, rfl⟩
      refine ⟨_, results_row_cell rfl _ _ w.heap.size (w.heap.size + 1) rfl rfl cs hf0.range Try.underlying29 rfl hci _ (load_errno _ _ _ hf1), ?_⟩
      rw [← hcs.out, hE, hP]
      exact ⟨_, _, rfl, oaz.lower (by omega), owz.lower (by omega), hfb⟩
  · have hE : nodE l = (nodR12 l).err := by
      show endV l (nodR12 l) = _
      unfold endV
      rw [if_neg (fun q => he q.1)]
    have hP : nodP l = nodZ := if_neg (by rw [hE]; exact he)
    have h1 := h0.call hT
    have e1 := (h1.m1 0 _ rfl)
    obtain ⟨hf0, hf1, hfb⟩ := h1.err (nodR12 l).err
    refine leaves_cons (f := 52) (args := #[.pointer (some ⟨w.heap.size + 1, 0, none⟩)]) (by simp) (by simp [go_sem]) ?_
    refine (catchN_panicking ⟨w.heap.size + 1, 0, none⟩ 0 _ _ e1.1 e1.2).mono ?_
    rintro e u' w'' ⟨rfl, rfl, rfl⟩
    refine ⟨_, results_row_cell rfl _ _ w.heap.size (w.heap.size + 1) rfl rfl zs hf0.range Try.underlying29 rfl hzi _ (load_errno _ _ _ hf1), ?_⟩
    rw [← hzs.out, hE, hP]
    exact ⟨.slice none 0 0, .slice none 0 0, rfl, OwnR.nil _ _ _ _ _, OwnR.nil _ _ _ _ _, hfb⟩
set_option maxRecDepth 8000 in
set_option maxHeartbeats 4000000 in
theorem nnod_any (a : Option Addr) (n cap : Nat) (l : List UInt8) (hn : n < 1000000) (hnc : n ≤ cap) (w : World) (hb : BytesAt w a n l) :
    Calls Try.prog 14 #[.slice a n cap] w fun e w' => ∃ va vw, e = .returned (.tuple #[(nodP l).vv va vw, .int .i64 (nodE l)]) ∧ OwnG w' w.heap.size va (nodP l).acl ∧ OwnW w' w.heap.size vw (nodP l).words ∧ Below w.heap.size w w' := by
  have hB0 := alloc_below w (.cells #[.string ⟨#[]⟩, .bool false, .int .i64 0, .int .i64 0, .int .i64 0, .int .i64 0, .slice none 0 0, .int .i64 0, .int .i64 0, .int .i64 0, .int .i64 0, .slice none 0 0, .int .i64 0, .int .i64 0, .int .i64 0, .int .i64 0] 29)
  have hk0 := blk_alloc w #[.string ⟨#[]⟩, .bool false, .int .i64 0, .int .i64 0, .int .i64 0, .int .i64 0, .slice none 0 0, .int .i64 0, .int .i64 0, .int .i64 0, .int .i64 0, .slice none 0 0, .int .i64 0, .int .i64 0, .int .i64 0, .int .i64 0] 29
  have hs0 := World.size_alloc w (.cells #[.string ⟨#[]⟩, .bool false, .int .i64 0, .int .i64 0, .int .i64 0, .int .i64 0, .slice none 0 0, .int .i64 0, .int .i64 0, .int .i64 0, .int .i64 0, .slice none 0 0, .int .i64 0, .int .i64 0, .int .i64 0, .int .i64 0] 29)
  have c := parseN_any a n cap l hn hnc _ (hb.below hB0)
  go_enter Try.func14, Try.ntmps14
  go_wp2_with fail
  generalize w.alloc (.cells #[.string ⟨#[]⟩, .bool false, .int .i64 0, .int .i64 0, .int .i64 0, .int .i64 0, .slice none 0 0, .int .i64 0, .int .i64 0, .int .i64 0, .int .i64 0, .slice none 0 0, .int .i64 0, .int .i64 0, .int .i64 0, .int .i64 0] 29) = W0 at *
  refine c.mono ?_
  rintro e W1 ⟨va, vw, rfl, oa, ow, hB1⟩
  obtain ⟨aa, ca, hva, -, -, -⟩ := OwnR.slice gr_ok.len oa
  obtain ⟨aw, cw, hvw, -, -, -⟩ := OwnR.slice wd_ok.len ow
  subst hva hvw
  obtain ⟨cs, hcs⟩ : ∃ cs : List Value, [.string (nodP l).path, .bool (nodP l).dir, .int .i64 (nodP l).label.s, .int .i64 (nodP l).label.c, .int .i64 (nodP l).label.i, .int .i64 (nodP l).label.k, .slice aa (nodP l).acl.length ca, .int .i64 (nodP l).r1, .int .i64 (nodP l).r2, .int .i64 (nodP l).r3, .int .i64 (nodP l).gates, .slice aw (nodP l).words.length cw, .int .i64 (nodP l).by_.s, .int .i64 (nodP l).by_.c, .int .i64 (nodP l).by_.i, .int .i64 (nodP l).by_.k] = cs := ⟨_, rfl⟩
  have hco : ∀ v ∈ cs, v.oneCell' = true := by rw [← hcs]; intro v hv; simp only [List.mem_cons, List.not_mem_nil, or_false] at hv; rcases hv with rfl | rfl | rfl | rfl | rfl | rfl | rfl | rfl | rfl | rfl | rfl | rfl | rfl | rfl | rfl | rfl <;> rfl
  have hcl : cs.length = 16 := by rw [← hcs]; rfl
  have hci : (Try.prog.info? 29).map (·.size) = some cs.length := by rw [hcl]; kernel_rfl
  have hk1 := hk0.same (hB1.block _ (by omega))
  have ht : W1.there w.heap.size 0 cs.length := by rw [hcl]; exact hk1.there
  have hk2 := hk1.setAll (cs := cs) (by rw [hcl]; rfl)
  obtain ⟨W2, hW2⟩ : ∃ W', W1.setCells w.heap.size 0 cs = W' := ⟨_, rfl⟩
  have hBz : Below w.heap.size w W2 := by rw [← hW2]; exact Below.cells (Nat.le_refl _) cs 0 (Below.then hB0 hB1)
  have oaz := (oa.lower (show w.heap.size + 1 ≤ W0.heap.size by omega)).setMid (show w.heap.size < w.heap.size + 1 by omega) 0 cs
  have owz := (ow.lower (show w.heap.size + 1 ≤ W0.heap.size by omega)).setMid (show w.heap.size < w.heap.size + 1 by omega) 0 cs
  rw [hW2] at oaz owz
  rw [hW2] at hk2
  have hcv : Aside ((.agg #[.string (nodP l).path, .bool (nodP l).dir, .int .i64 (nodP l).label.s, .int .i64 (nodP l).label.c, .int .i64 (nodP l).label.i, .int .i64 (nodP l).label.k, .slice aa (nodP l).acl.length ca, .int .i64 (nodP l).r1, .int .i64 (nodP l).r2, .int .i64 (nodP l).r3, .int .i64 (nodP l).gates, .slice aw (nodP l).words.length cw, .int .i64 (nodP l).by_.s, .int .i64 (nodP l).by_.c, .int .i64 (nodP l).by_.i, .int .i64 (nodP l).by_.k] : Value) = .agg cs.toArray) := by rw [← hcs]; exact rfl
  replace hcs : Aside ([.string (nodP l).path, .bool (nodP l).dir, .int .i64 (nodP l).label.s, .int .i64 (nodP l).label.c, .int .i64 (nodP l).label.i, .int .i64 (nodP l).label.k, .slice aa (nodP l).acl.length ca, .int .i64 (nodP l).r1, .int .i64 (nodP l).r2, .int .i64 (nodP l).r3, .int .i64 (nodP l).gates, .slice aw (nodP l).words.length cw, .int .i64 (nodP l).by_.s, .int .i64 (nodP l).by_.c, .int .i64 (nodP l).by_.i, .int .i64 (nodP l).by_.k] = cs) := hcs
  clear c hk0 hk1 hs0
  go_wp2_with (first | (refine wpList_store_row rfl _ _ rfl w.heap.size rfl cs hcv.out ht hci hco hW2 ?_) | fail)
  refine bodyPost_ret (v := .tuple #[.agg cs.toArray, .int .i64 (nodE l)]) (results_row2 rfl _ _ w.heap.size rfl (.int .i64 (nodE l)) rfl cs hk2.range Try.underlying29 rfl hci) rfl ?_
  rw [← hcs.out]
  exact ⟨_, _, rfl, oaz.lower (by omega), owz.lower (by omega), hBz⟩
end Go.Proofs.Ytecleampjeebaaa
