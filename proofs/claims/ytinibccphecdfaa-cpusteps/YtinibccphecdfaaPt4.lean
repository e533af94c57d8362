/-
  PART 4 of what the claims of this seat lean on: CpuFnM CpuFnN CpuFnO CpuFnP CpuFnQ CpuKn CpuKno CpuOne CpuStp Opens.
-/
import Derived.Defers
import Derived.Recover
import Derived.Test.YtinibccphecdfaaRows
import Derived.ProofKit
import Derived.OpenShut
import Derived.ChangeSame
import Derived.ChangeSlices
import Derived.SizedLaws
import Derived.Deep.Slices
import Derived.Deep.Strs
import Derived.Test.YtinibccphecdfaaPt1
import Derived.Test.YtinibccphecdfaaPt3
/-! PACKAGE cpu AS IT LANDED: what an operation does (do). Written by mk_cpufnl.py. -/
namespace Go.Proofs.Ytinibccphecdfaa
open Go.RowKit
set_option maxRecDepth 8000
set_option linter.unusedSimpArgs false
set_option linter.unusedVariables false

set_option maxRecDepth 8000 in
set_option maxHeartbeats 4000000 in
theorem cdo1 {bx bm L : Nat} {a : Option Addr} {cap : Nat} {m : List PG} {is : Bool} {s o y n : Int} {d : Cp} {v : Value} {w : World} (h : XO bx bm L a cap m is s o y n d v w) (p nn : Int) (hi : insE ⟨1, p, nn⟩ = 0) :
    Calls Try.prog 35 #[.pointer (some ⟨bx, 0, none⟩), .agg #[.int .i64 1, .int .i64 p, .int .i64 nn]] w (DoP bx bm L (.slice a m.length cap) n (opD d (m.map (·.g)) ⟨1, p, nn⟩) w) := by
  have hundI := Try.underlying64
  have hszI : (Try.prog.info? 64).map (·.size) = some 3 := by kernel_rfl
  have hi0 := blkl_alloc w (ins3 ⟨1, p, nn⟩).toArray 64
  have hB0 := alloc_below w (.cells (ins3 ⟨1, p, nn⟩).toArray 64)
  have h0 := h.keep hB0
  have hbx := h.x.lt
  have hLw : L ≤ w.heap.size := by have := h.lx; omega
  replace hi0 : BlkL w.heap.size (ins3 ⟨1, p, nn⟩) (w.alloc (.cells #[.int .i64 1, .int .i64 p, .int .i64 nn] 64)) := hi0
  replace hB0 : Below w.heap.size w (w.alloc (.cells #[.int .i64 1, .int .i64 p, .int .i64 nn] 64)) := hB0
  replace h0 : XO bx bm L a cap m is s o y n d v (w.alloc (.cells #[.int .i64 1, .int .i64 p, .int .i64 nn] 64)) := h0
  go_enter Try.func35, Try.ntmps35
  go_upto_region 1 with fail
  generalize w.alloc (.cells #[.int .i64 1, .int .i64 p, .int .i64 nn] 64) = W0 at *
  have x0 := (hi0.1 0 _ rfl).1
  have hri := hi0.range
  have kme := cmem_any bx d v (rest3 bm 0 false) h.ok ⟨1, p, nn⟩ hi W0 h0.x
  have krd := fun (W : World) h1 h2 => cread_any bm bx a cap m h.mg d v [.int .i64 0, .bool false] (memP d ⟨1, p, nn⟩) (kn (m.map (·.g)) (memP d ⟨1, p, nn⟩).s) rfl (rdE d (m.map (·.g)) ⟨1, p, nn⟩) rfl W h1 h2
  have hsg : kn (m.map (·.g)) (memP d ⟨1, p, nn⟩).s = mSeg d (m.map (·.g)) ⟨1, p, nn⟩ := rfl
  have hw : wAt (mSeg d (m.map (·.g)) ⟨1, p, nn⟩) (memP d ⟨1, p, nn⟩).f = rdW d (m.map (·.g)) ⟨1, p, nn⟩ := rfl
  simp only [hsg] at krd
  simp only [hw] at krd
  clear hsg hw
  obtain ⟨E, hE⟩ : ∃ E, rdE d (m.map (·.g)) ⟨1, p, nn⟩ = E := ⟨_, rfl⟩
  obtain ⟨wd, hwd⟩ : ∃ wd, rdW d (m.map (·.g)) ⟨1, p, nn⟩ = wd := ⟨_, rfl⟩
  rw [hE, hwd] at krd
  replace hE : Aside (rdE d (m.map (·.g)) ⟨1, p, nn⟩ = E) := hE
  replace hwd : Aside (rdW d (m.map (·.g)) ⟨1, p, nn⟩ = wd) := hwd
  generalize (mSeg d (m.map (·.g)) ⟨1, p, nn⟩).rg = rg at *
  generalize memP d ⟨1, p, nn⟩ = q at *
  have heq : Aside (opD d (m.map (·.g)) ⟨1, p, nn⟩ = if E ≠ 0 then flt E else okC { d with a := arC 1 d.a wd }) := by
    show _ = _
    rw [← hE.out, ← hwd.out]
    rfl
  go_wp2_with (first | (refine wpList_load_row rfl _ rfl w.heap.size rfl (ins3 ⟨1, p, nn⟩) hri hundI rfl hszI ?_) | fail)
  refine kme.mono ?_
  rintro e W1 ⟨rfl, hb⟩
  have h1 := h0.keep hb
  have hB1 := Below.then hB0 hb
  have hi1 := stab_blk _ _ _ _ hi0 hb
  clear kme h0 hB0 hb hri x0 hi0
  go_wp2_with fail
  refine (krd W1 h1.at h1.x).mono ?_
  rintro e W2 ⟨rfl, hb⟩
  have h2 := h1.keep hb
  have hB2 := Below.then hB1 hb
  have hi2 := stab_blk _ _ _ _ hi1 hb
  clear krd h1 hB1 hb hi1
  by_cases hE0 : E = 0
  rotate_left
  · rw [if_neg hE0]
    go_wp2_with fail
    refine diedC ?_
    rw [heq.out, if_pos hE0]
    exact .no hE0 rfl hB2
  rw [if_pos hE0]
  rw [if_neg (by simpa using hE0)] at heq
  clear hE0
  have y3 := h2.x.a
  have yf := h2.x.free (i := 3) (by decide)
  have hX3 := h2.x.setA wd
  have hO3 := own_set h2.own h2.vx 3 (.int .i64 wd)
  have hB3 := (hB2.mono hLw).setCell (p := ⟨bx, 3, none⟩) h.lx (.int .i64 wd)
  clear h2 hB2 hi2
  go_wp2_with fail
  refine bodyPost_end (v := .tuple #[]) (by simp [results, Try.results35, go_sem]) rfl ?_
  rw [heq.out, show arC 1 d.a wd = wd from rfl]
  exact .ok v _ hX3 hO3 hB3
set_option maxRecDepth 8000 in
set_option maxHeartbeats 4000000 in
theorem cdo4 {bx bm L : Nat} {a : Option Addr} {cap : Nat} {m : List PG} {is : Bool} {s o y n : Int} {d : Cp} {v : Value} {w : World} (h : XO bx bm L a cap m is s o y n d v w) (p nn : Int) (hi : insE ⟨4, p, nn⟩ = 0) :
    Calls Try.prog 35 #[.pointer (some ⟨bx, 0, none⟩), .agg #[.int .i64 4, .int .i64 p, .int .i64 nn]] w (DoP bx bm L (.slice a m.length cap) n (opD d (m.map (·.g)) ⟨4, p, nn⟩) w) := by
  have hundI := Try.underlying64
  have hszI : (Try.prog.info? 64).map (·.size) = some 3 := by kernel_rfl
  have hi0 := blkl_alloc w (ins3 ⟨4, p, nn⟩).toArray 64
  have hB0 := alloc_below w (.cells (ins3 ⟨4, p, nn⟩).toArray 64)
  have h0 := h.keep hB0
  have hbx := h.x.lt
  have hLw : L ≤ w.heap.size := by have := h.lx; omega
  replace hi0 : BlkL w.heap.size (ins3 ⟨4, p, nn⟩) (w.alloc (.cells #[.int .i64 4, .int .i64 p, .int .i64 nn] 64)) := hi0
  replace hB0 : Below w.heap.size w (w.alloc (.cells #[.int .i64 4, .int .i64 p, .int .i64 nn] 64)) := hB0
  replace h0 : XO bx bm L a cap m is s o y n d v (w.alloc (.cells #[.int .i64 4, .int .i64 p, .int .i64 nn] 64)) := h0
  go_enter Try.func35, Try.ntmps35
  go_upto_region 1 with fail
  generalize w.alloc (.cells #[.int .i64 4, .int .i64 p, .int .i64 nn] 64) = W0 at *
  have x0 := (hi0.1 0 _ rfl).1
  have hri := hi0.range
  have kme := cmem_any bx d v (rest3 bm 0 false) h.ok ⟨4, p, nn⟩ hi W0 h0.x
  have krd := fun (W : World) h1 h2 => cread_any bm bx a cap m h.mg d v [.int .i64 0, .bool false] (memP d ⟨4, p, nn⟩) (kn (m.map (·.g)) (memP d ⟨4, p, nn⟩).s) rfl (rdE d (m.map (·.g)) ⟨4, p, nn⟩) rfl W h1 h2
  have hsg : kn (m.map (·.g)) (memP d ⟨4, p, nn⟩).s = mSeg d (m.map (·.g)) ⟨4, p, nn⟩ := rfl
  have hw : wAt (mSeg d (m.map (·.g)) ⟨4, p, nn⟩) (memP d ⟨4, p, nn⟩).f = rdW d (m.map (·.g)) ⟨4, p, nn⟩ := rfl
  simp only [hsg] at krd
  simp only [hw] at krd
  clear hsg hw
  obtain ⟨E, hE⟩ : ∃ E, rdE d (m.map (·.g)) ⟨4, p, nn⟩ = E := ⟨_, rfl⟩
  obtain ⟨wd, hwd⟩ : ∃ wd, rdW d (m.map (·.g)) ⟨4, p, nn⟩ = wd := ⟨_, rfl⟩
  rw [hE, hwd] at krd
  replace hE : Aside (rdE d (m.map (·.g)) ⟨4, p, nn⟩ = E) := hE
  replace hwd : Aside (rdW d (m.map (·.g)) ⟨4, p, nn⟩ = wd) := hwd
  generalize (mSeg d (m.map (·.g)) ⟨4, p, nn⟩).rg = rg at *
  generalize memP d ⟨4, p, nn⟩ = q at *
  have heq : Aside (opD d (m.map (·.g)) ⟨4, p, nn⟩ = if E ≠ 0 then flt E else okC { d with a := arC 4 d.a wd }) := by
    show _ = _
    rw [← hE.out, ← hwd.out]
    rfl
  go_wp2_with (first | (refine wpList_load_row rfl _ rfl w.heap.size rfl (ins3 ⟨4, p, nn⟩) hri hundI rfl hszI ?_) | fail)
  refine kme.mono ?_
  rintro e W1 ⟨rfl, hb⟩
  have h1 := h0.keep hb
  have hB1 := Below.then hB0 hb
  have hi1 := stab_blk _ _ _ _ hi0 hb
  clear kme h0 hB0 hb hri x0 hi0
  go_wp2_with fail
  refine (krd W1 h1.at h1.x).mono ?_
  rintro e W2 ⟨rfl, hb⟩
  have h2 := h1.keep hb
  have hB2 := Below.then hB1 hb
  have hi2 := stab_blk _ _ _ _ hi1 hb
  clear krd h1 hB1 hb hi1
  by_cases hE0 : E = 0
  rotate_left
  · rw [if_neg hE0]
    go_wp2_with fail
    refine diedC ?_
    rw [heq.out, if_pos hE0]
    exact .no hE0 rfl hB2
  rw [if_pos hE0]
  rw [if_neg (by simpa using hE0)] at heq
  clear hE0
  have hszR : (Try.prog.info? 55).map (·.size) = some 4 := by kernel_rfl
  obtain ⟨W4, hW4, hth4, -, hb4⟩ := put_new W2 (rg4 ⟨0, 0, 0, 0⟩).toArray 55 (rg4 rg) rfl (by show 0 < 4; decide)
  have h4 := h2.keep hb4
  have hB4 := Below.then hB2 hb4
  have hi4 := stab_blk _ _ _ _ hi2 hb4
  clear h2 hB2 hi2 hb4
  go_upto_region 19 with (first | (refine wpList_store_row rfl _ _ rfl W2.heap.size rfl (rg4 rg) rfl hth4 hszR (rg4_one _) hW4 ?_) | fail)
  have hdr := (Below.refl W4.heap.size W4).drew
  have h5 := h4.keep hdr
  have hB5 := Below.then hB4 hdr
  have hi5 := stab_blk _ _ _ _ hi4 hdr
  clear h4 hB4 hi4 hdr hW4 hth4
  refine wp_region_held_drew (S := (BlkL w.heap.size (ins3 ⟨4, p, nn⟩))) (by kernel_rfl) (by exact hi5) ?_
  intro hHeld
  generalize W4.drew = w0 at *
  refine wpAnyH_take (i := 0) (v := ?_) (by simp only [gA, gB, gC]; rfl) (by kernel_rfl) (by kernel_rfl) (by kernel_rfl) (by exact fun _ _ _ h => h) (Or.inl ⟨by rfl, ?_⟩) (by assumption) ?_; rotate_left; (focus (intro w hSw; (try dsimp only at hSw); go_simp; try with_reducible rfl)); (try simp only [Act.put, sA, sB, sC])
  refine wpAnyH_take (i := 1) (v := ?_) (by simp only [gA, gB, gC]; rfl) (by kernel_rfl) (by kernel_rfl) (by kernel_rfl) (by exact fun _ _ _ h => h) (Or.inl ⟨by rfl, ?_⟩) (by assumption) ?_; rotate_left; (focus (intro w hSw; (try dsimp only at hSw); go_simp; try with_reducible rfl)); (try simp only [Act.put, sA, sB, sC])
  refine wpAnyH_take (i := 2) (v := _) (by simp only [gA, gB, gC]; rfl) (by kernel_rfl) (by kernel_rfl) (by kernel_rfl) (by exact fun _ _ _ h => h) (yields_cellI (by rfl) _ rfl ⟨w.heap.size, 0, none⟩ rfl (.int .i64 4) (fun _ s => (s.1 0 _ rfl).1) intI_load) (by assumption) ?_; (try simp only [Act.put, sA, sB, sC])
  refine wpAnyH_take (i := 3) (v := ?_) (by simp only [gA, gB, gC]; rfl) (by kernel_rfl) (by kernel_rfl) (by kernel_rfl) (by exact fun _ _ _ h => h) (Or.inl ⟨by rfl, ?_⟩) (by assumption) ?_; rotate_left; (focus (intro w hSw; (try dsimp only at hSw); go_simp; try with_reducible rfl)); (try simp only [Act.put, sA, sB, sC])
  refine wpAnyH_take (i := 4) (v := ?_) (by simp only [gA, gB, gC]; rfl) (by kernel_rfl) (by kernel_rfl) (by kernel_rfl) (by exact fun _ _ _ h => h) (Or.inl ⟨by rfl, ?_⟩) (by assumption) ?_; rotate_left; (focus (intro w hSw; (try dsimp only at hSw); go_simp; try with_reducible rfl)); (try simp only [Act.put, sA, sB, sC])
  refine wpAnyH_take (i := 5) (v := ?_) (by simp only [gA, gB, gC]; rfl) (by kernel_rfl) (by kernel_rfl) (by kernel_rfl) (by exact fun _ _ _ h => h) (Or.inl ⟨by rfl, ?_⟩) (by assumption) ?_; rotate_left; (focus (intro w hSw; (try dsimp only at hSw); go_simp; try with_reducible rfl)); (try simp only [Act.put, sA, sB, sC])
  refine wpAnyH_take (i := 6) (v := ?_) (by simp only [gA, gB, gC]; rfl) (by kernel_rfl) (by kernel_rfl) (by kernel_rfl) (by exact fun _ _ _ h => h) (Or.inl ⟨by rfl, ?_⟩) (by assumption) ?_; rotate_left; (focus (intro w hSw; (try dsimp only at hSw); go_simp; try with_reducible rfl)); (try simp only [Act.put, sA, sB, sC])
  refine wpAnyH_take (i := 8) (v := ?_) (by simp only [gA, gB, gC]; rfl) (by kernel_rfl) (by kernel_rfl) (by kernel_rfl) (by exact fun _ _ _ h => h) (Or.inl ⟨by rfl, ?_⟩) (by assumption) ?_; rotate_left; (focus (intro w hSw; (try dsimp only at hSw); go_simp; try with_reducible rfl)); (try simp only [Act.put, sA, sB, sC])
  refine wpAnyH_ready (rs := [7]) (by kernel_rfl) (by simp) ?_
  refine AllReadyH.cons (by simp only [gA, gB, gC]; rfl) (fun K hK => ?_) AllReadyH.nil
  refine step_oneJ rfl _ rfl ⟨bx, 3, none⟩ rfl (.int .i64 d.a) h5.x.a int64_load ?_
  (try simp only [Act.put, sA, sB, sC])
  refine hK.out _ _ (hi5) ?_
  clear hHeld hK
  intro hHeld
  (try simp only [Act.put, sA, sB, sC])
  refine wpAnyH_ready (rs := [9]) (by kernel_rfl) (by simp) ?_
  refine AllReadyH.cons (by simp only [gA, gB, gC]; rfl) (fun K hK => ?_) AllReadyH.nil
  go_simp
  go_at_call 54
  refine (creck_any 4 d.a wd (by decide) w0).mono ?_
  rintro e w1 ⟨rfl, hb⟩
  replace h5 := h5.keep hb
  replace hB5 := Below.then hB5 hb
  replace hi5 := stab_blk _ _ _ _ hi5 hb
  clear hb
  refine hK.out _ _ (hi5) ?_
  clear hHeld hK
  intro hHeld
  (try simp only [Act.put, sA, sB, sC])
  refine wpAnyH_take (i := 10) (v := ?_) (by simp only [gA, gB, gC]; rfl) (by kernel_rfl) (by kernel_rfl) (by kernel_rfl) (by exact fun _ _ _ h => h) (Or.inl ⟨by rfl, ?_⟩) (by assumption) ?_; rotate_left; (focus (intro w hSw; (try dsimp only at hSw); go_simp; try with_reducible rfl)); (try simp only [Act.put, sA, sB, sC])
  refine wpAnyH_take (i := 11) (v := ?_) (by simp only [gA, gB, gC]; rfl) (by kernel_rfl) (by kernel_rfl) (by kernel_rfl) (by exact fun _ _ _ h => h) (Or.inl ⟨by rfl, ?_⟩) (by assumption) ?_; rotate_left; (focus (intro w hSw; (try dsimp only at hSw); go_simp; try with_reducible rfl)); (try simp only [Act.put, sA, sB, sC])
  refine wpAnyH_take (i := 12) (v := ?_) (by simp only [gA, gB, gC]; rfl) (by kernel_rfl) (by kernel_rfl) (by kernel_rfl) (by exact fun _ _ _ h => h) (Or.inl ⟨by rfl, ?_⟩) (by assumption) ?_; rotate_left; (focus (intro w hSw; (try dsimp only at hSw); go_simp; try with_reducible rfl)); (try simp only [Act.put, sA, sB, sC])
  refine wpAnyH_ready (rs := [13]) (by kernel_rfl) (by simp) ?_
  refine AllReadyH.cons (by simp only [gA, gB, gC]; rfl) (fun K hK => ?_) AllReadyH.nil
  have hX6 := h5.x.setA (arC 4 d.a wd)
  have hO6 := own_set h5.own h5.vx 3 (.int .i64 (arC 4 d.a wd))
  have hB6 := (hB5.mono hLw).setCell (p := ⟨bx, 3, none⟩) h.lx (.int .i64 (arC 4 d.a wd))
  have hi6 := far_blk hi5 (show bx ≠ w.heap.size by omega) 3 (.int .i64 (arC 4 d.a wd))
  refine step_st rfl _ _ rfl ⟨bx, 3, none⟩ rfl (.int .i64 (arC 4 d.a wd)) rfl (int64_store _ _ _ _ h5.x.a (h5.x.free (by decide))) ?_
  (try simp only [Act.put, sA, sB, sC])
  refine hK.out _ _ (hi6) ?_
  clear hHeld hK
  intro hHeld
  (try simp only [Act.put, sA, sB, sC])
  refine wpAnyH_done (by kernel_rfl) ?_ _
  go_wp2_with fail
  refine bodyPost_end (v := .tuple #[]) (by simp [results, Try.results35, go_sem]) rfl ?_
  rw [heq.out]
  exact .ok v _ hX6 hO6 hB6
set_option maxRecDepth 8000 in
set_option maxHeartbeats 4000000 in
theorem cdo5 {bx bm L : Nat} {a : Option Addr} {cap : Nat} {m : List PG} {is : Bool} {s o y n : Int} {d : Cp} {v : Value} {w : World} (h : XO bx bm L a cap m is s o y n d v w) (p nn : Int) (hi : insE ⟨5, p, nn⟩ = 0) :
    Calls Try.prog 35 #[.pointer (some ⟨bx, 0, none⟩), .agg #[.int .i64 5, .int .i64 p, .int .i64 nn]] w (DoP bx bm L (.slice a m.length cap) n (opD d (m.map (·.g)) ⟨5, p, nn⟩) w) := by
  have hundI := Try.underlying64
  have hszI : (Try.prog.info? 64).map (·.size) = some 3 := by kernel_rfl
  have hi0 := blkl_alloc w (ins3 ⟨5, p, nn⟩).toArray 64
  have hB0 := alloc_below w (.cells (ins3 ⟨5, p, nn⟩).toArray 64)
  have h0 := h.keep hB0
  have hbx := h.x.lt
  have hLw : L ≤ w.heap.size := by have := h.lx; omega
  replace hi0 : BlkL w.heap.size (ins3 ⟨5, p, nn⟩) (w.alloc (.cells #[.int .i64 5, .int .i64 p, .int .i64 nn] 64)) := hi0
  replace hB0 : Below w.heap.size w (w.alloc (.cells #[.int .i64 5, .int .i64 p, .int .i64 nn] 64)) := hB0
  replace h0 : XO bx bm L a cap m is s o y n d v (w.alloc (.cells #[.int .i64 5, .int .i64 p, .int .i64 nn] 64)) := h0
  go_enter Try.func35, Try.ntmps35
  go_upto_region 1 with fail
  generalize w.alloc (.cells #[.int .i64 5, .int .i64 p, .int .i64 nn] 64) = W0 at *
  have x0 := (hi0.1 0 _ rfl).1
  have hri := hi0.range
  have kme := cmem_any bx d v (rest3 bm 0 false) h.ok ⟨5, p, nn⟩ hi W0 h0.x
  have krd := fun (W : World) h1 h2 => cread_any bm bx a cap m h.mg d v [.int .i64 0, .bool false] (memP d ⟨5, p, nn⟩) (kn (m.map (·.g)) (memP d ⟨5, p, nn⟩).s) rfl (rdE d (m.map (·.g)) ⟨5, p, nn⟩) rfl W h1 h2
  have hsg : kn (m.map (·.g)) (memP d ⟨5, p, nn⟩).s = mSeg d (m.map (·.g)) ⟨5, p, nn⟩ := rfl
  have hw : wAt (mSeg d (m.map (·.g)) ⟨5, p, nn⟩) (memP d ⟨5, p, nn⟩).f = rdW d (m.map (·.g)) ⟨5, p, nn⟩ := rfl
  simp only [hsg] at krd
  simp only [hw] at krd
  clear hsg hw
  obtain ⟨E, hE⟩ : ∃ E, rdE d (m.map (·.g)) ⟨5, p, nn⟩ = E := ⟨_, rfl⟩
  obtain ⟨wd, hwd⟩ : ∃ wd, rdW d (m.map (·.g)) ⟨5, p, nn⟩ = wd := ⟨_, rfl⟩
  rw [hE, hwd] at krd
  replace hE : Aside (rdE d (m.map (·.g)) ⟨5, p, nn⟩ = E) := hE
  replace hwd : Aside (rdW d (m.map (·.g)) ⟨5, p, nn⟩ = wd) := hwd
  generalize (mSeg d (m.map (·.g)) ⟨5, p, nn⟩).rg = rg at *
  generalize memP d ⟨5, p, nn⟩ = q at *
  have heq : Aside (opD d (m.map (·.g)) ⟨5, p, nn⟩ = if E ≠ 0 then flt E else okC { d with a := arC 5 d.a wd }) := by
    show _ = _
    rw [← hE.out, ← hwd.out]
    rfl
  go_wp2_with (first | (refine wpList_load_row rfl _ rfl w.heap.size rfl (ins3 ⟨5, p, nn⟩) hri hundI rfl hszI ?_) | fail)
  refine kme.mono ?_
  rintro e W1 ⟨rfl, hb⟩
  have h1 := h0.keep hb
  have hB1 := Below.then hB0 hb
  have hi1 := stab_blk _ _ _ _ hi0 hb
  clear kme h0 hB0 hb hri x0 hi0
  go_wp2_with fail
  refine (krd W1 h1.at h1.x).mono ?_
  rintro e W2 ⟨rfl, hb⟩
  have h2 := h1.keep hb
  have hB2 := Below.then hB1 hb
  have hi2 := stab_blk _ _ _ _ hi1 hb
  clear krd h1 hB1 hb hi1
  by_cases hE0 : E = 0
  rotate_left
  · rw [if_neg hE0]
    go_wp2_with fail
    refine diedC ?_
    rw [heq.out, if_pos hE0]
    exact .no hE0 rfl hB2
  rw [if_pos hE0]
  rw [if_neg (by simpa using hE0)] at heq
  clear hE0
  have hszR : (Try.prog.info? 55).map (·.size) = some 4 := by kernel_rfl
  obtain ⟨W4, hW4, hth4, -, hb4⟩ := put_new W2 (rg4 ⟨0, 0, 0, 0⟩).toArray 55 (rg4 rg) rfl (by show 0 < 4; decide)
  have h4 := h2.keep hb4
  have hB4 := Below.then hB2 hb4
  have hi4 := stab_blk _ _ _ _ hi2 hb4
  clear h2 hB2 hi2 hb4
  go_upto_region 19 with (first | (refine wpList_store_row rfl _ _ rfl W2.heap.size rfl (rg4 rg) rfl hth4 hszR (rg4_one _) hW4 ?_) | fail)
  have hdr := (Below.refl W4.heap.size W4).drew
  have h5 := h4.keep hdr
  have hB5 := Below.then hB4 hdr
  have hi5 := stab_blk _ _ _ _ hi4 hdr
  clear h4 hB4 hi4 hdr hW4 hth4
  refine wp_region_held_drew (S := (BlkL w.heap.size (ins3 ⟨5, p, nn⟩))) (by kernel_rfl) (by exact hi5) ?_
  intro hHeld
  generalize W4.drew = w0 at *
  refine wpAnyH_take (i := 0) (v := ?_) (by simp only [gA, gB, gC]; rfl) (by kernel_rfl) (by kernel_rfl) (by kernel_rfl) (by exact fun _ _ _ h => h) (Or.inl ⟨by rfl, ?_⟩) (by assumption) ?_; rotate_left; (focus (intro w hSw; (try dsimp only at hSw); go_simp; try with_reducible rfl)); (try simp only [Act.put, sA, sB, sC])
  refine wpAnyH_take (i := 1) (v := ?_) (by simp only [gA, gB, gC]; rfl) (by kernel_rfl) (by kernel_rfl) (by kernel_rfl) (by exact fun _ _ _ h => h) (Or.inl ⟨by rfl, ?_⟩) (by assumption) ?_; rotate_left; (focus (intro w hSw; (try dsimp only at hSw); go_simp; try with_reducible rfl)); (try simp only [Act.put, sA, sB, sC])
  refine wpAnyH_take (i := 2) (v := _) (by simp only [gA, gB, gC]; rfl) (by kernel_rfl) (by kernel_rfl) (by kernel_rfl) (by exact fun _ _ _ h => h) (yields_cellI (by rfl) _ rfl ⟨w.heap.size, 0, none⟩ rfl (.int .i64 5) (fun _ s => (s.1 0 _ rfl).1) intI_load) (by assumption) ?_; (try simp only [Act.put, sA, sB, sC])
  refine wpAnyH_take (i := 3) (v := ?_) (by simp only [gA, gB, gC]; rfl) (by kernel_rfl) (by kernel_rfl) (by kernel_rfl) (by exact fun _ _ _ h => h) (Or.inl ⟨by rfl, ?_⟩) (by assumption) ?_; rotate_left; (focus (intro w hSw; (try dsimp only at hSw); go_simp; try with_reducible rfl)); (try simp only [Act.put, sA, sB, sC])
  refine wpAnyH_take (i := 4) (v := ?_) (by simp only [gA, gB, gC]; rfl) (by kernel_rfl) (by kernel_rfl) (by kernel_rfl) (by exact fun _ _ _ h => h) (Or.inl ⟨by rfl, ?_⟩) (by assumption) ?_; rotate_left; (focus (intro w hSw; (try dsimp only at hSw); go_simp; try with_reducible rfl)); (try simp only [Act.put, sA, sB, sC])
  refine wpAnyH_take (i := 5) (v := ?_) (by simp only [gA, gB, gC]; rfl) (by kernel_rfl) (by kernel_rfl) (by kernel_rfl) (by exact fun _ _ _ h => h) (Or.inl ⟨by rfl, ?_⟩) (by assumption) ?_; rotate_left; (focus (intro w hSw; (try dsimp only at hSw); go_simp; try with_reducible rfl)); (try simp only [Act.put, sA, sB, sC])
  refine wpAnyH_take (i := 6) (v := ?_) (by simp only [gA, gB, gC]; rfl) (by kernel_rfl) (by kernel_rfl) (by kernel_rfl) (by exact fun _ _ _ h => h) (Or.inl ⟨by rfl, ?_⟩) (by assumption) ?_; rotate_left; (focus (intro w hSw; (try dsimp only at hSw); go_simp; try with_reducible rfl)); (try simp only [Act.put, sA, sB, sC])
  refine wpAnyH_take (i := 8) (v := ?_) (by simp only [gA, gB, gC]; rfl) (by kernel_rfl) (by kernel_rfl) (by kernel_rfl) (by exact fun _ _ _ h => h) (Or.inl ⟨by rfl, ?_⟩) (by assumption) ?_; rotate_left; (focus (intro w hSw; (try dsimp only at hSw); go_simp; try with_reducible rfl)); (try simp only [Act.put, sA, sB, sC])
  refine wpAnyH_ready (rs := [7]) (by kernel_rfl) (by simp) ?_
  refine AllReadyH.cons (by simp only [gA, gB, gC]; rfl) (fun K hK => ?_) AllReadyH.nil
  refine step_oneJ rfl _ rfl ⟨bx, 3, none⟩ rfl (.int .i64 d.a) h5.x.a int64_load ?_
  (try simp only [Act.put, sA, sB, sC])
  refine hK.out _ _ (hi5) ?_
  clear hHeld hK
  intro hHeld
  (try simp only [Act.put, sA, sB, sC])
  refine wpAnyH_ready (rs := [9]) (by kernel_rfl) (by simp) ?_
  refine AllReadyH.cons (by simp only [gA, gB, gC]; rfl) (fun K hK => ?_) AllReadyH.nil
  go_simp
  go_at_call 54
  refine (creck_any 5 d.a wd (by decide) w0).mono ?_
  rintro e w1 ⟨rfl, hb⟩
  replace h5 := h5.keep hb
  replace hB5 := Below.then hB5 hb
  replace hi5 := stab_blk _ _ _ _ hi5 hb
  clear hb
  refine hK.out _ _ (hi5) ?_
  clear hHeld hK
  intro hHeld
  (try simp only [Act.put, sA, sB, sC])
  refine wpAnyH_take (i := 10) (v := ?_) (by simp only [gA, gB, gC]; rfl) (by kernel_rfl) (by kernel_rfl) (by kernel_rfl) (by exact fun _ _ _ h => h) (Or.inl ⟨by rfl, ?_⟩) (by assumption) ?_; rotate_left; (focus (intro w hSw; (try dsimp only at hSw); go_simp; try with_reducible rfl)); (try simp only [Act.put, sA, sB, sC])
  refine wpAnyH_take (i := 11) (v := ?_) (by simp only [gA, gB, gC]; rfl) (by kernel_rfl) (by kernel_rfl) (by kernel_rfl) (by exact fun _ _ _ h => h) (Or.inl ⟨by rfl, ?_⟩) (by assumption) ?_; rotate_left; (focus (intro w hSw; (try dsimp only at hSw); go_simp; try with_reducible rfl)); (try simp only [Act.put, sA, sB, sC])
  refine wpAnyH_take (i := 12) (v := ?_) (by simp only [gA, gB, gC]; rfl) (by kernel_rfl) (by kernel_rfl) (by kernel_rfl) (by exact fun _ _ _ h => h) (Or.inl ⟨by rfl, ?_⟩) (by assumption) ?_; rotate_left; (focus (intro w hSw; (try dsimp only at hSw); go_simp; try with_reducible rfl)); (try simp only [Act.put, sA, sB, sC])
  refine wpAnyH_ready (rs := [13]) (by kernel_rfl) (by simp) ?_
  refine AllReadyH.cons (by simp only [gA, gB, gC]; rfl) (fun K hK => ?_) AllReadyH.nil
  have hX6 := h5.x.setA (arC 5 d.a wd)
  have hO6 := own_set h5.own h5.vx 3 (.int .i64 (arC 5 d.a wd))
  have hB6 := (hB5.mono hLw).setCell (p := ⟨bx, 3, none⟩) h.lx (.int .i64 (arC 5 d.a wd))
  have hi6 := far_blk hi5 (show bx ≠ w.heap.size by omega) 3 (.int .i64 (arC 5 d.a wd))
  refine step_st rfl _ _ rfl ⟨bx, 3, none⟩ rfl (.int .i64 (arC 5 d.a wd)) rfl (int64_store _ _ _ _ h5.x.a (h5.x.free (by decide))) ?_
  (try simp only [Act.put, sA, sB, sC])
  refine hK.out _ _ (hi6) ?_
  clear hHeld hK
  intro hHeld
  (try simp only [Act.put, sA, sB, sC])
  refine wpAnyH_done (by kernel_rfl) ?_ _
  go_wp2_with fail
  refine bodyPost_end (v := .tuple #[]) (by simp [results, Try.results35, go_sem]) rfl ?_
  rw [heq.out]
  exact .ok v _ hX6 hO6 hB6
set_option maxRecDepth 8000 in
set_option maxHeartbeats 4000000 in
theorem cdo6 {bx bm L : Nat} {a : Option Addr} {cap : Nat} {m : List PG} {is : Bool} {s o y n : Int} {d : Cp} {v : Value} {w : World} (h : XO bx bm L a cap m is s o y n d v w) (p nn : Int) (hi : insE ⟨6, p, nn⟩ = 0) :
    Calls Try.prog 35 #[.pointer (some ⟨bx, 0, none⟩), .agg #[.int .i64 6, .int .i64 p, .int .i64 nn]] w (DoP bx bm L (.slice a m.length cap) n (opD d (m.map (·.g)) ⟨6, p, nn⟩) w) := by
  have hundI := Try.underlying64
  have hszI : (Try.prog.info? 64).map (·.size) = some 3 := by kernel_rfl
  have hi0 := blkl_alloc w (ins3 ⟨6, p, nn⟩).toArray 64
  have hB0 := alloc_below w (.cells (ins3 ⟨6, p, nn⟩).toArray 64)
  have h0 := h.keep hB0
  have hbx := h.x.lt
  have hLw : L ≤ w.heap.size := by have := h.lx; omega
  replace hi0 : BlkL w.heap.size (ins3 ⟨6, p, nn⟩) (w.alloc (.cells #[.int .i64 6, .int .i64 p, .int .i64 nn] 64)) := hi0
  replace hB0 : Below w.heap.size w (w.alloc (.cells #[.int .i64 6, .int .i64 p, .int .i64 nn] 64)) := hB0
  replace h0 : XO bx bm L a cap m is s o y n d v (w.alloc (.cells #[.int .i64 6, .int .i64 p, .int .i64 nn] 64)) := h0
  go_enter Try.func35, Try.ntmps35
  go_upto_region 1 with fail
  generalize w.alloc (.cells #[.int .i64 6, .int .i64 p, .int .i64 nn] 64) = W0 at *
  have x0 := (hi0.1 0 _ rfl).1
  have hri := hi0.range
  have kme := cmem_any bx d v (rest3 bm 0 false) h.ok ⟨6, p, nn⟩ hi W0 h0.x
  have krd := fun (W : World) h1 h2 => cread_any bm bx a cap m h.mg d v [.int .i64 0, .bool false] (memP d ⟨6, p, nn⟩) (kn (m.map (·.g)) (memP d ⟨6, p, nn⟩).s) rfl (rdE d (m.map (·.g)) ⟨6, p, nn⟩) rfl W h1 h2
  have hsg : kn (m.map (·.g)) (memP d ⟨6, p, nn⟩).s = mSeg d (m.map (·.g)) ⟨6, p, nn⟩ := rfl
  have hw : wAt (mSeg d (m.map (·.g)) ⟨6, p, nn⟩) (memP d ⟨6, p, nn⟩).f = rdW d (m.map (·.g)) ⟨6, p, nn⟩ := rfl
  simp only [hsg] at krd
  simp only [hw] at krd
  clear hsg hw
  obtain ⟨E, hE⟩ : ∃ E, rdE d (m.map (·.g)) ⟨6, p, nn⟩ = E := ⟨_, rfl⟩
  obtain ⟨wd, hwd⟩ : ∃ wd, rdW d (m.map (·.g)) ⟨6, p, nn⟩ = wd := ⟨_, rfl⟩
  rw [hE, hwd] at krd
  replace hE : Aside (rdE d (m.map (·.g)) ⟨6, p, nn⟩ = E) := hE
  replace hwd : Aside (rdW d (m.map (·.g)) ⟨6, p, nn⟩ = wd) := hwd
  generalize (mSeg d (m.map (·.g)) ⟨6, p, nn⟩).rg = rg at *
  generalize memP d ⟨6, p, nn⟩ = q at *
  have heq : Aside (opD d (m.map (·.g)) ⟨6, p, nn⟩ = if E ≠ 0 then flt E else okC { d with a := arC 6 d.a wd }) := by
    show _ = _
    rw [← hE.out, ← hwd.out]
    rfl
  go_wp2_with (first | (refine wpList_load_row rfl _ rfl w.heap.size rfl (ins3 ⟨6, p, nn⟩) hri hundI rfl hszI ?_) | fail)
  refine kme.mono ?_
  rintro e W1 ⟨rfl, hb⟩
  have h1 := h0.keep hb
  have hB1 := Below.then hB0 hb
  have hi1 := stab_blk _ _ _ _ hi0 hb
  clear kme h0 hB0 hb hri x0 hi0
  go_wp2_with fail
  refine (krd W1 h1.at h1.x).mono ?_
  rintro e W2 ⟨rfl, hb⟩
  have h2 := h1.keep hb
  have hB2 := Below.then hB1 hb
  have hi2 := stab_blk _ _ _ _ hi1 hb
  clear krd h1 hB1 hb hi1
  by_cases hE0 : E = 0
  rotate_left
  · rw [if_neg hE0]
    go_wp2_with fail
    refine diedC ?_
    rw [heq.out, if_pos hE0]
    exact .no hE0 rfl hB2
  rw [if_pos hE0]
  rw [if_neg (by simpa using hE0)] at heq
  clear hE0
  have hszR : (Try.prog.info? 55).map (·.size) = some 4 := by kernel_rfl
  obtain ⟨W4, hW4, hth4, -, hb4⟩ := put_new W2 (rg4 ⟨0, 0, 0, 0⟩).toArray 55 (rg4 rg) rfl (by show 0 < 4; decide)
  have h4 := h2.keep hb4
  have hB4 := Below.then hB2 hb4
  have hi4 := stab_blk _ _ _ _ hi2 hb4
  clear h2 hB2 hi2 hb4
  go_upto_region 19 with (first | (refine wpList_store_row rfl _ _ rfl W2.heap.size rfl (rg4 rg) rfl hth4 hszR (rg4_one _) hW4 ?_) | fail)
  have hdr := (Below.refl W4.heap.size W4).drew
  have h5 := h4.keep hdr
  have hB5 := Below.then hB4 hdr
  have hi5 := stab_blk _ _ _ _ hi4 hdr
  clear h4 hB4 hi4 hdr hW4 hth4
  refine wp_region_held_drew (S := (BlkL w.heap.size (ins3 ⟨6, p, nn⟩))) (by kernel_rfl) (by exact hi5) ?_
  intro hHeld
  generalize W4.drew = w0 at *
  refine wpAnyH_take (i := 0) (v := ?_) (by simp only [gA, gB, gC]; rfl) (by kernel_rfl) (by kernel_rfl) (by kernel_rfl) (by exact fun _ _ _ h => h) (Or.inl ⟨by rfl, ?_⟩) (by assumption) ?_; rotate_left; (focus (intro w hSw; (try dsimp only at hSw); go_simp; try with_reducible rfl)); (try simp only [Act.put, sA, sB, sC])
  refine wpAnyH_take (i := 1) (v := ?_) (by simp only [gA, gB, gC]; rfl) (by kernel_rfl) (by kernel_rfl) (by kernel_rfl) (by exact fun _ _ _ h => h) (Or.inl ⟨by rfl, ?_⟩) (by assumption) ?_; rotate_left; (focus (intro w hSw; (try dsimp only at hSw); go_simp; try with_reducible rfl)); (try simp only [Act.put, sA, sB, sC])
  refine wpAnyH_take (i := 2) (v := _) (by simp only [gA, gB, gC]; rfl) (by kernel_rfl) (by kernel_rfl) (by kernel_rfl) (by exact fun _ _ _ h => h) (yields_cellI (by rfl) _ rfl ⟨w.heap.size, 0, none⟩ rfl (.int .i64 6) (fun _ s => (s.1 0 _ rfl).1) intI_load) (by assumption) ?_; (try simp only [Act.put, sA, sB, sC])
  refine wpAnyH_take (i := 3) (v := ?_) (by simp only [gA, gB, gC]; rfl) (by kernel_rfl) (by kernel_rfl) (by kernel_rfl) (by exact fun _ _ _ h => h) (Or.inl ⟨by rfl, ?_⟩) (by assumption) ?_; rotate_left; (focus (intro w hSw; (try dsimp only at hSw); go_simp; try with_reducible rfl)); (try simp only [Act.put, sA, sB, sC])
  refine wpAnyH_take (i := 4) (v := ?_) (by simp only [gA, gB, gC]; rfl) (by kernel_rfl) (by kernel_rfl) (by kernel_rfl) (by exact fun _ _ _ h => h) (Or.inl ⟨by rfl, ?_⟩) (by assumption) ?_; rotate_left; (focus (intro w hSw; (try dsimp only at hSw); go_simp; try with_reducible rfl)); (try simp only [Act.put, sA, sB, sC])
  refine wpAnyH_take (i := 5) (v := ?_) (by simp only [gA, gB, gC]; rfl) (by kernel_rfl) (by kernel_rfl) (by kernel_rfl) (by exact fun _ _ _ h => h) (Or.inl ⟨by rfl, ?_⟩) (by assumption) ?_; rotate_left; (focus (intro w hSw; (try dsimp only at hSw); go_simp; try with_reducible rfl)); (try simp only [Act.put, sA, sB, sC])
  refine wpAnyH_take (i := 6) (v := ?_) (by simp only [gA, gB, gC]; rfl) (by kernel_rfl) (by kernel_rfl) (by kernel_rfl) (by exact fun _ _ _ h => h) (Or.inl ⟨by rfl, ?_⟩) (by assumption) ?_; rotate_left; (focus (intro w hSw; (try dsimp only at hSw); go_simp; try with_reducible rfl)); (try simp only [Act.put, sA, sB, sC])
  refine wpAnyH_take (i := 8) (v := ?_) (by simp only [gA, gB, gC]; rfl) (by kernel_rfl) (by kernel_rfl) (by kernel_rfl) (by exact fun _ _ _ h => h) (Or.inl ⟨by rfl, ?_⟩) (by assumption) ?_; rotate_left; (focus (intro w hSw; (try dsimp only at hSw); go_simp; try with_reducible rfl)); (try simp only [Act.put, sA, sB, sC])
  refine wpAnyH_ready (rs := [7]) (by kernel_rfl) (by simp) ?_
  refine AllReadyH.cons (by simp only [gA, gB, gC]; rfl) (fun K hK => ?_) AllReadyH.nil
  refine step_oneJ rfl _ rfl ⟨bx, 3, none⟩ rfl (.int .i64 d.a) h5.x.a int64_load ?_
  (try simp only [Act.put, sA, sB, sC])
  refine hK.out _ _ (hi5) ?_
  clear hHeld hK
  intro hHeld
  (try simp only [Act.put, sA, sB, sC])
  refine wpAnyH_ready (rs := [9]) (by kernel_rfl) (by simp) ?_
  refine AllReadyH.cons (by simp only [gA, gB, gC]; rfl) (fun K hK => ?_) AllReadyH.nil
  go_simp
  go_at_call 54
  refine (creck_any 6 d.a wd (by decide) w0).mono ?_
  rintro e w1 ⟨rfl, hb⟩
  replace h5 := h5.keep hb
  replace hB5 := Below.then hB5 hb
  replace hi5 := stab_blk _ _ _ _ hi5 hb
  clear hb
  refine hK.out _ _ (hi5) ?_
  clear hHeld hK
  intro hHeld
  (try simp only [Act.put, sA, sB, sC])
  refine wpAnyH_take (i := 10) (v := ?_) (by simp only [gA, gB, gC]; rfl) (by kernel_rfl) (by kernel_rfl) (by kernel_rfl) (by exact fun _ _ _ h => h) (Or.inl ⟨by rfl, ?_⟩) (by assumption) ?_; rotate_left; (focus (intro w hSw; (try dsimp only at hSw); go_simp; try with_reducible rfl)); (try simp only [Act.put, sA, sB, sC])
  refine wpAnyH_take (i := 11) (v := ?_) (by simp only [gA, gB, gC]; rfl) (by kernel_rfl) (by kernel_rfl) (by kernel_rfl) (by exact fun _ _ _ h => h) (Or.inl ⟨by rfl, ?_⟩) (by assumption) ?_; rotate_left; (focus (intro w hSw; (try dsimp only at hSw); go_simp; try with_reducible rfl)); (try simp only [Act.put, sA, sB, sC])
  refine wpAnyH_take (i := 12) (v := ?_) (by simp only [gA, gB, gC]; rfl) (by kernel_rfl) (by kernel_rfl) (by kernel_rfl) (by exact fun _ _ _ h => h) (Or.inl ⟨by rfl, ?_⟩) (by assumption) ?_; rotate_left; (focus (intro w hSw; (try dsimp only at hSw); go_simp; try with_reducible rfl)); (try simp only [Act.put, sA, sB, sC])
  refine wpAnyH_ready (rs := [13]) (by kernel_rfl) (by simp) ?_
  refine AllReadyH.cons (by simp only [gA, gB, gC]; rfl) (fun K hK => ?_) AllReadyH.nil
  have hX6 := h5.x.setA (arC 6 d.a wd)
  have hO6 := own_set h5.own h5.vx 3 (.int .i64 (arC 6 d.a wd))
  have hB6 := (hB5.mono hLw).setCell (p := ⟨bx, 3, none⟩) h.lx (.int .i64 (arC 6 d.a wd))
  have hi6 := far_blk hi5 (show bx ≠ w.heap.size by omega) 3 (.int .i64 (arC 6 d.a wd))
  refine step_st rfl _ _ rfl ⟨bx, 3, none⟩ rfl (.int .i64 (arC 6 d.a wd)) rfl (int64_store _ _ _ _ h5.x.a (h5.x.free (by decide))) ?_
  (try simp only [Act.put, sA, sB, sC])
  refine hK.out _ _ (hi6) ?_
  clear hHeld hK
  intro hHeld
  (try simp only [Act.put, sA, sB, sC])
  refine wpAnyH_done (by kernel_rfl) ?_ _
  go_wp2_with fail
  refine bodyPost_end (v := .tuple #[]) (by simp [results, Try.results35, go_sem]) rfl ?_
  rw [heq.out]
  exact .ok v _ hX6 hO6 hB6
set_option maxRecDepth 8000 in
set_option maxHeartbeats 4000000 in
theorem cdo7 {bx bm L : Nat} {a : Option Addr} {cap : Nat} {m : List PG} {is : Bool} {s o y n : Int} {d : Cp} {v : Value} {w : World} (h : XO bx bm L a cap m is s o y n d v w) (p nn : Int) (hi : insE ⟨7, p, nn⟩ = 0) :
    Calls Try.prog 35 #[.pointer (some ⟨bx, 0, none⟩), .agg #[.int .i64 7, .int .i64 p, .int .i64 nn]] w (DoP bx bm L (.slice a m.length cap) n (opD d (m.map (·.g)) ⟨7, p, nn⟩) w) := by
  have hundI := Try.underlying64
  have hszI : (Try.prog.info? 64).map (·.size) = some 3 := by kernel_rfl
  have hi0 := blkl_alloc w (ins3 ⟨7, p, nn⟩).toArray 64
  have hB0 := alloc_below w (.cells (ins3 ⟨7, p, nn⟩).toArray 64)
  have h0 := h.keep hB0
  have hbx := h.x.lt
  have hLw : L ≤ w.heap.size := by have := h.lx; omega
  replace hi0 : BlkL w.heap.size (ins3 ⟨7, p, nn⟩) (w.alloc (.cells #[.int .i64 7, .int .i64 p, .int .i64 nn] 64)) := hi0
  replace hB0 : Below w.heap.size w (w.alloc (.cells #[.int .i64 7, .int .i64 p, .int .i64 nn] 64)) := hB0
  replace h0 : XO bx bm L a cap m is s o y n d v (w.alloc (.cells #[.int .i64 7, .int .i64 p, .int .i64 nn] 64)) := h0
  go_enter Try.func35, Try.ntmps35
  go_upto_region 1 with fail
  generalize w.alloc (.cells #[.int .i64 7, .int .i64 p, .int .i64 nn] 64) = W0 at *
  have x0 := (hi0.1 0 _ rfl).1
  have hri := hi0.range
  have kme := cmem_any bx d v (rest3 bm 0 false) h.ok ⟨7, p, nn⟩ hi W0 h0.x
  have krd := fun (W : World) h1 h2 => cread_any bm bx a cap m h.mg d v [.int .i64 0, .bool false] (memP d ⟨7, p, nn⟩) (kn (m.map (·.g)) (memP d ⟨7, p, nn⟩).s) rfl (rdE d (m.map (·.g)) ⟨7, p, nn⟩) rfl W h1 h2
  have hsg : kn (m.map (·.g)) (memP d ⟨7, p, nn⟩).s = mSeg d (m.map (·.g)) ⟨7, p, nn⟩ := rfl
  have hw : wAt (mSeg d (m.map (·.g)) ⟨7, p, nn⟩) (memP d ⟨7, p, nn⟩).f = rdW d (m.map (·.g)) ⟨7, p, nn⟩ := rfl
  simp only [hsg] at krd
  simp only [hw] at krd
  clear hsg hw
  obtain ⟨E, hE⟩ : ∃ E, rdE d (m.map (·.g)) ⟨7, p, nn⟩ = E := ⟨_, rfl⟩
  obtain ⟨wd, hwd⟩ : ∃ wd, rdW d (m.map (·.g)) ⟨7, p, nn⟩ = wd := ⟨_, rfl⟩
  rw [hE, hwd] at krd
  replace hE : Aside (rdE d (m.map (·.g)) ⟨7, p, nn⟩ = E) := hE
  replace hwd : Aside (rdW d (m.map (·.g)) ⟨7, p, nn⟩ = wd) := hwd
  generalize (mSeg d (m.map (·.g)) ⟨7, p, nn⟩).rg = rg at *
  generalize memP d ⟨7, p, nn⟩ = q at *
  have heq : Aside (opD d (m.map (·.g)) ⟨7, p, nn⟩ = if E ≠ 0 then flt E else okC { d with a := arC 7 d.a wd }) := by
    show _ = _
    rw [← hE.out, ← hwd.out]
    rfl
  go_wp2_with (first | (refine wpList_load_row rfl _ rfl w.heap.size rfl (ins3 ⟨7, p, nn⟩) hri hundI rfl hszI ?_) | fail)
  refine kme.mono ?_
  rintro e W1 ⟨rfl, hb⟩
  have h1 := h0.keep hb
  have hB1 := Below.then hB0 hb
  have hi1 := stab_blk _ _ _ _ hi0 hb
  clear kme h0 hB0 hb hri x0 hi0
  go_wp2_with fail
  refine (krd W1 h1.at h1.x).mono ?_
  rintro e W2 ⟨rfl, hb⟩
  have h2 := h1.keep hb
  have hB2 := Below.then hB1 hb
  have hi2 := stab_blk _ _ _ _ hi1 hb
  clear krd h1 hB1 hb hi1
  by_cases hE0 : E = 0
  rotate_left
  · rw [if_neg hE0]
    go_wp2_with fail
    refine diedC ?_
    rw [heq.out, if_pos hE0]
    exact .no hE0 rfl hB2
  rw [if_pos hE0]
  rw [if_neg (by simpa using hE0)] at heq
  clear hE0
  have hszR : (Try.prog.info? 55).map (·.size) = some 4 := by kernel_rfl
  obtain ⟨W4, hW4, hth4, -, hb4⟩ := put_new W2 (rg4 ⟨0, 0, 0, 0⟩).toArray 55 (rg4 rg) rfl (by show 0 < 4; decide)
  have h4 := h2.keep hb4
  have hB4 := Below.then hB2 hb4
  have hi4 := stab_blk _ _ _ _ hi2 hb4
  clear h2 hB2 hi2 hb4
  go_upto_region 19 with (first | (refine wpList_store_row rfl _ _ rfl W2.heap.size rfl (rg4 rg) rfl hth4 hszR (rg4_one _) hW4 ?_) | fail)
  have hdr := (Below.refl W4.heap.size W4).drew
  have h5 := h4.keep hdr
  have hB5 := Below.then hB4 hdr
  have hi5 := stab_blk _ _ _ _ hi4 hdr
  clear h4 hB4 hi4 hdr hW4 hth4
  refine wp_region_held_drew (S := (BlkL w.heap.size (ins3 ⟨7, p, nn⟩))) (by kernel_rfl) (by exact hi5) ?_
  intro hHeld
  generalize W4.drew = w0 at *
  refine wpAnyH_take (i := 0) (v := ?_) (by simp only [gA, gB, gC]; rfl) (by kernel_rfl) (by kernel_rfl) (by kernel_rfl) (by exact fun _ _ _ h => h) (Or.inl ⟨by rfl, ?_⟩) (by assumption) ?_; rotate_left; (focus (intro w hSw; (try dsimp only at hSw); go_simp; try with_reducible rfl)); (try simp only [Act.put, sA, sB, sC])
  refine wpAnyH_take (i := 1) (v := ?_) (by simp only [gA, gB, gC]; rfl) (by kernel_rfl) (by kernel_rfl) (by kernel_rfl) (by exact fun _ _ _ h => h) (Or.inl ⟨by rfl, ?_⟩) (by assumption) ?_; rotate_left; (focus (intro w hSw; (try dsimp only at hSw); go_simp; try with_reducible rfl)); (try simp only [Act.put, sA, sB, sC])
  refine wpAnyH_take (i := 2) (v := _) (by simp only [gA, gB, gC]; rfl) (by kernel_rfl) (by kernel_rfl) (by kernel_rfl) (by exact fun _ _ _ h => h) (yields_cellI (by rfl) _ rfl ⟨w.heap.size, 0, none⟩ rfl (.int .i64 7) (fun _ s => (s.1 0 _ rfl).1) intI_load) (by assumption) ?_; (try simp only [Act.put, sA, sB, sC])
  refine wpAnyH_take (i := 3) (v := ?_) (by simp only [gA, gB, gC]; rfl) (by kernel_rfl) (by kernel_rfl) (by kernel_rfl) (by exact fun _ _ _ h => h) (Or.inl ⟨by rfl, ?_⟩) (by assumption) ?_; rotate_left; (focus (intro w hSw; (try dsimp only at hSw); go_simp; try with_reducible rfl)); (try simp only [Act.put, sA, sB, sC])
  refine wpAnyH_take (i := 4) (v := ?_) (by simp only [gA, gB, gC]; rfl) (by kernel_rfl) (by kernel_rfl) (by kernel_rfl) (by exact fun _ _ _ h => h) (Or.inl ⟨by rfl, ?_⟩) (by assumption) ?_; rotate_left; (focus (intro w hSw; (try dsimp only at hSw); go_simp; try with_reducible rfl)); (try simp only [Act.put, sA, sB, sC])
  refine wpAnyH_take (i := 5) (v := ?_) (by simp only [gA, gB, gC]; rfl) (by kernel_rfl) (by kernel_rfl) (by kernel_rfl) (by exact fun _ _ _ h => h) (Or.inl ⟨by rfl, ?_⟩) (by assumption) ?_; rotate_left; (focus (intro w hSw; (try dsimp only at hSw); go_simp; try with_reducible rfl)); (try simp only [Act.put, sA, sB, sC])
  refine wpAnyH_take (i := 6) (v := ?_) (by simp only [gA, gB, gC]; rfl) (by kernel_rfl) (by kernel_rfl) (by kernel_rfl) (by exact fun _ _ _ h => h) (Or.inl ⟨by rfl, ?_⟩) (by assumption) ?_; rotate_left; (focus (intro w hSw; (try dsimp only at hSw); go_simp; try with_reducible rfl)); (try simp only [Act.put, sA, sB, sC])
  refine wpAnyH_take (i := 8) (v := ?_) (by simp only [gA, gB, gC]; rfl) (by kernel_rfl) (by kernel_rfl) (by kernel_rfl) (by exact fun _ _ _ h => h) (Or.inl ⟨by rfl, ?_⟩) (by assumption) ?_; rotate_left; (focus (intro w hSw; (try dsimp only at hSw); go_simp; try with_reducible rfl)); (try simp only [Act.put, sA, sB, sC])
  refine wpAnyH_ready (rs := [7]) (by kernel_rfl) (by simp) ?_
  refine AllReadyH.cons (by simp only [gA, gB, gC]; rfl) (fun K hK => ?_) AllReadyH.nil
  refine step_oneJ rfl _ rfl ⟨bx, 3, none⟩ rfl (.int .i64 d.a) h5.x.a int64_load ?_
  (try simp only [Act.put, sA, sB, sC])
  refine hK.out _ _ (hi5) ?_
  clear hHeld hK
  intro hHeld
  (try simp only [Act.put, sA, sB, sC])
  refine wpAnyH_ready (rs := [9]) (by kernel_rfl) (by simp) ?_
  refine AllReadyH.cons (by simp only [gA, gB, gC]; rfl) (fun K hK => ?_) AllReadyH.nil
  go_simp
  go_at_call 54
  refine (creck_any 7 d.a wd (by decide) w0).mono ?_
  rintro e w1 ⟨rfl, hb⟩
  replace h5 := h5.keep hb
  replace hB5 := Below.then hB5 hb
  replace hi5 := stab_blk _ _ _ _ hi5 hb
  clear hb
  refine hK.out _ _ (hi5) ?_
  clear hHeld hK
  intro hHeld
  (try simp only [Act.put, sA, sB, sC])
  refine wpAnyH_take (i := 10) (v := ?_) (by simp only [gA, gB, gC]; rfl) (by kernel_rfl) (by kernel_rfl) (by kernel_rfl) (by exact fun _ _ _ h => h) (Or.inl ⟨by rfl, ?_⟩) (by assumption) ?_; rotate_left; (focus (intro w hSw; (try dsimp only at hSw); go_simp; try with_reducible rfl)); (try simp only [Act.put, sA, sB, sC])
  refine wpAnyH_take (i := 11) (v := ?_) (by simp only [gA, gB, gC]; rfl) (by kernel_rfl) (by kernel_rfl) (by kernel_rfl) (by exact fun _ _ _ h => h) (Or.inl ⟨by rfl, ?_⟩) (by assumption) ?_; rotate_left; (focus (intro w hSw; (try dsimp only at hSw); go_simp; try with_reducible rfl)); (try simp only [Act.put, sA, sB, sC])
  refine wpAnyH_take (i := 12) (v := ?_) (by simp only [gA, gB, gC]; rfl) (by kernel_rfl) (by kernel_rfl) (by kernel_rfl) (by exact fun _ _ _ h => h) (Or.inl ⟨by rfl, ?_⟩) (by assumption) ?_; rotate_left; (focus (intro w hSw; (try dsimp only at hSw); go_simp; try with_reducible rfl)); (try simp only [Act.put, sA, sB, sC])
  refine wpAnyH_ready (rs := [13]) (by kernel_rfl) (by simp) ?_
  refine AllReadyH.cons (by simp only [gA, gB, gC]; rfl) (fun K hK => ?_) AllReadyH.nil
  have hX6 := h5.x.setA (arC 7 d.a wd)
  have hO6 := own_set h5.own h5.vx 3 (.int .i64 (arC 7 d.a wd))
  have hB6 := (hB5.mono hLw).setCell (p := ⟨bx, 3, none⟩) h.lx (.int .i64 (arC 7 d.a wd))
  have hi6 := far_blk hi5 (show bx ≠ w.heap.size by omega) 3 (.int .i64 (arC 7 d.a wd))
  refine step_st rfl _ _ rfl ⟨bx, 3, none⟩ rfl (.int .i64 (arC 7 d.a wd)) rfl (int64_store _ _ _ _ h5.x.a (h5.x.free (by decide))) ?_
  (try simp only [Act.put, sA, sB, sC])
  refine hK.out _ _ (hi6) ?_
  clear hHeld hK
  intro hHeld
  (try simp only [Act.put, sA, sB, sC])
  refine wpAnyH_done (by kernel_rfl) ?_ _
  go_wp2_with fail
  refine bodyPost_end (v := .tuple #[]) (by simp [results, Try.results35, go_sem]) rfl ?_
  rw [heq.out]
  exact .ok v _ hX6 hO6 hB6
set_option maxRecDepth 8000 in
set_option maxHeartbeats 4000000 in
theorem cdo8 {bx bm L : Nat} {a : Option Addr} {cap : Nat} {m : List PG} {is : Bool} {s o y n : Int} {d : Cp} {v : Value} {w : World} (h : XO bx bm L a cap m is s o y n d v w) (p nn : Int) (hi : insE ⟨8, p, nn⟩ = 0) :
    Calls Try.prog 35 #[.pointer (some ⟨bx, 0, none⟩), .agg #[.int .i64 8, .int .i64 p, .int .i64 nn]] w (DoP bx bm L (.slice a m.length cap) n (opD d (m.map (·.g)) ⟨8, p, nn⟩) w) := by
  have hundI := Try.underlying64
  have hszI : (Try.prog.info? 64).map (·.size) = some 3 := by kernel_rfl
  have hi0 := blkl_alloc w (ins3 ⟨8, p, nn⟩).toArray 64
  have hB0 := alloc_below w (.cells (ins3 ⟨8, p, nn⟩).toArray 64)
  have h0 := h.keep hB0
  have hbx := h.x.lt
  have hLw : L ≤ w.heap.size := by have := h.lx; omega
  replace hi0 : BlkL w.heap.size (ins3 ⟨8, p, nn⟩) (w.alloc (.cells #[.int .i64 8, .int .i64 p, .int .i64 nn] 64)) := hi0
  replace hB0 : Below w.heap.size w (w.alloc (.cells #[.int .i64 8, .int .i64 p, .int .i64 nn] 64)) := hB0
  replace h0 : XO bx bm L a cap m is s o y n d v (w.alloc (.cells #[.int .i64 8, .int .i64 p, .int .i64 nn] 64)) := h0
  go_enter Try.func35, Try.ntmps35
  go_upto_region 1 with fail
  generalize w.alloc (.cells #[.int .i64 8, .int .i64 p, .int .i64 nn] 64) = W0 at *
  have x0 := (hi0.1 0 _ rfl).1
  have hri := hi0.range
  have kme := cmem_any bx d v (rest3 bm 0 false) h.ok ⟨8, p, nn⟩ hi W0 h0.x
  have krd := fun (W : World) h1 h2 => cread_any bm bx a cap m h.mg d v [.int .i64 0, .bool false] (memP d ⟨8, p, nn⟩) (kn (m.map (·.g)) (memP d ⟨8, p, nn⟩).s) rfl (rdE d (m.map (·.g)) ⟨8, p, nn⟩) rfl W h1 h2
  have hsg : kn (m.map (·.g)) (memP d ⟨8, p, nn⟩).s = mSeg d (m.map (·.g)) ⟨8, p, nn⟩ := rfl
  have hw : wAt (mSeg d (m.map (·.g)) ⟨8, p, nn⟩) (memP d ⟨8, p, nn⟩).f = rdW d (m.map (·.g)) ⟨8, p, nn⟩ := rfl
  simp only [hsg] at krd
  simp only [hw] at krd
  clear hsg hw
  obtain ⟨E, hE⟩ : ∃ E, rdE d (m.map (·.g)) ⟨8, p, nn⟩ = E := ⟨_, rfl⟩
  obtain ⟨wd, hwd⟩ : ∃ wd, rdW d (m.map (·.g)) ⟨8, p, nn⟩ = wd := ⟨_, rfl⟩
  rw [hE, hwd] at krd
  replace hE : Aside (rdE d (m.map (·.g)) ⟨8, p, nn⟩ = E) := hE
  replace hwd : Aside (rdW d (m.map (·.g)) ⟨8, p, nn⟩ = wd) := hwd
  generalize (mSeg d (m.map (·.g)) ⟨8, p, nn⟩).rg = rg at *
  generalize memP d ⟨8, p, nn⟩ = q at *
  have heq : Aside (opD d (m.map (·.g)) ⟨8, p, nn⟩ = if E ≠ 0 then flt E else okC { d with a := arC 8 d.a wd }) := by
    show _ = _
    rw [← hE.out, ← hwd.out]
    rfl
  go_wp2_with (first | (refine wpList_load_row rfl _ rfl w.heap.size rfl (ins3 ⟨8, p, nn⟩) hri hundI rfl hszI ?_) | fail)
  refine kme.mono ?_
  rintro e W1 ⟨rfl, hb⟩
  have h1 := h0.keep hb
  have hB1 := Below.then hB0 hb
  have hi1 := stab_blk _ _ _ _ hi0 hb
  clear kme h0 hB0 hb hri x0 hi0
  go_wp2_with fail
  refine (krd W1 h1.at h1.x).mono ?_
  rintro e W2 ⟨rfl, hb⟩
  have h2 := h1.keep hb
  have hB2 := Below.then hB1 hb
  have hi2 := stab_blk _ _ _ _ hi1 hb
  clear krd h1 hB1 hb hi1
  by_cases hE0 : E = 0
  rotate_left
  · rw [if_neg hE0]
    go_wp2_with fail
    refine diedC ?_
    rw [heq.out, if_pos hE0]
    exact .no hE0 rfl hB2
  rw [if_pos hE0]
  rw [if_neg (by simpa using hE0)] at heq
  clear hE0
  have hszR : (Try.prog.info? 55).map (·.size) = some 4 := by kernel_rfl
  obtain ⟨W4, hW4, hth4, -, hb4⟩ := put_new W2 (rg4 ⟨0, 0, 0, 0⟩).toArray 55 (rg4 rg) rfl (by show 0 < 4; decide)
  have h4 := h2.keep hb4
  have hB4 := Below.then hB2 hb4
  have hi4 := stab_blk _ _ _ _ hi2 hb4
  clear h2 hB2 hi2 hb4
  go_upto_region 19 with (first | (refine wpList_store_row rfl _ _ rfl W2.heap.size rfl (rg4 rg) rfl hth4 hszR (rg4_one _) hW4 ?_) | fail)
  have hdr := (Below.refl W4.heap.size W4).drew
  have h5 := h4.keep hdr
  have hB5 := Below.then hB4 hdr
  have hi5 := stab_blk _ _ _ _ hi4 hdr
  clear h4 hB4 hi4 hdr hW4 hth4
  refine wp_region_held_drew (S := (BlkL w.heap.size (ins3 ⟨8, p, nn⟩))) (by kernel_rfl) (by exact hi5) ?_
  intro hHeld
  generalize W4.drew = w0 at *
  refine wpAnyH_take (i := 0) (v := ?_) (by simp only [gA, gB, gC]; rfl) (by kernel_rfl) (by kernel_rfl) (by kernel_rfl) (by exact fun _ _ _ h => h) (Or.inl ⟨by rfl, ?_⟩) (by assumption) ?_; rotate_left; (focus (intro w hSw; (try dsimp only at hSw); go_simp; try with_reducible rfl)); (try simp only [Act.put, sA, sB, sC])
  refine wpAnyH_take (i := 1) (v := ?_) (by simp only [gA, gB, gC]; rfl) (by kernel_rfl) (by kernel_rfl) (by kernel_rfl) (by exact fun _ _ _ h => h) (Or.inl ⟨by rfl, ?_⟩) (by assumption) ?_; rotate_left; (focus (intro w hSw; (try dsimp only at hSw); go_simp; try with_reducible rfl)); (try simp only [Act.put, sA, sB, sC])
  refine wpAnyH_take (i := 2) (v := _) (by simp only [gA, gB, gC]; rfl) (by kernel_rfl) (by kernel_rfl) (by kernel_rfl) (by exact fun _ _ _ h => h) (yields_cellI (by rfl) _ rfl ⟨w.heap.size, 0, none⟩ rfl (.int .i64 8) (fun _ s => (s.1 0 _ rfl).1) intI_load) (by assumption) ?_; (try simp only [Act.put, sA, sB, sC])
  refine wpAnyH_take (i := 3) (v := ?_) (by simp only [gA, gB, gC]; rfl) (by kernel_rfl) (by kernel_rfl) (by kernel_rfl) (by exact fun _ _ _ h => h) (Or.inl ⟨by rfl, ?_⟩) (by assumption) ?_; rotate_left; (focus (intro w hSw; (try dsimp only at hSw); go_simp; try with_reducible rfl)); (try simp only [Act.put, sA, sB, sC])
  refine wpAnyH_take (i := 4) (v := ?_) (by simp only [gA, gB, gC]; rfl) (by kernel_rfl) (by kernel_rfl) (by kernel_rfl) (by exact fun _ _ _ h => h) (Or.inl ⟨by rfl, ?_⟩) (by assumption) ?_; rotate_left; (focus (intro w hSw; (try dsimp only at hSw); go_simp; try with_reducible rfl)); (try simp only [Act.put, sA, sB, sC])
  refine wpAnyH_take (i := 5) (v := ?_) (by simp only [gA, gB, gC]; rfl) (by kernel_rfl) (by kernel_rfl) (by kernel_rfl) (by exact fun _ _ _ h => h) (Or.inl ⟨by rfl, ?_⟩) (by assumption) ?_; rotate_left; (focus (intro w hSw; (try dsimp only at hSw); go_simp; try with_reducible rfl)); (try simp only [Act.put, sA, sB, sC])
  refine wpAnyH_take (i := 6) (v := ?_) (by simp only [gA, gB, gC]; rfl) (by kernel_rfl) (by kernel_rfl) (by kernel_rfl) (by exact fun _ _ _ h => h) (Or.inl ⟨by rfl, ?_⟩) (by assumption) ?_; rotate_left; (focus (intro w hSw; (try dsimp only at hSw); go_simp; try with_reducible rfl)); (try simp only [Act.put, sA, sB, sC])
  refine wpAnyH_take (i := 8) (v := ?_) (by simp only [gA, gB, gC]; rfl) (by kernel_rfl) (by kernel_rfl) (by kernel_rfl) (by exact fun _ _ _ h => h) (Or.inl ⟨by rfl, ?_⟩) (by assumption) ?_; rotate_left; (focus (intro w hSw; (try dsimp only at hSw); go_simp; try with_reducible rfl)); (try simp only [Act.put, sA, sB, sC])
  refine wpAnyH_ready (rs := [7]) (by kernel_rfl) (by simp) ?_
  refine AllReadyH.cons (by simp only [gA, gB, gC]; rfl) (fun K hK => ?_) AllReadyH.nil
  refine step_oneJ rfl _ rfl ⟨bx, 3, none⟩ rfl (.int .i64 d.a) h5.x.a int64_load ?_
  (try simp only [Act.put, sA, sB, sC])
  refine hK.out _ _ (hi5) ?_
  clear hHeld hK
  intro hHeld
  (try simp only [Act.put, sA, sB, sC])
  refine wpAnyH_ready (rs := [9]) (by kernel_rfl) (by simp) ?_
  refine AllReadyH.cons (by simp only [gA, gB, gC]; rfl) (fun K hK => ?_) AllReadyH.nil
  go_simp
  go_at_call 54
  refine (creck_any 8 d.a wd (by decide) w0).mono ?_
  rintro e w1 ⟨rfl, hb⟩
  replace h5 := h5.keep hb
  replace hB5 := Below.then hB5 hb
  replace hi5 := stab_blk _ _ _ _ hi5 hb
  clear hb
  refine hK.out _ _ (hi5) ?_
  clear hHeld hK
  intro hHeld
  (try simp only [Act.put, sA, sB, sC])
  refine wpAnyH_take (i := 10) (v := ?_) (by simp only [gA, gB, gC]; rfl) (by kernel_rfl) (by kernel_rfl) (by kernel_rfl) (by exact fun _ _ _ h => h) (Or.inl ⟨by rfl, ?_⟩) (by assumption) ?_; rotate_left; (focus (intro w hSw; (try dsimp only at hSw); go_simp; try with_reducible rfl)); (try simp only [Act.put, sA, sB, sC])
  refine wpAnyH_take (i := 11) (v := ?_) (by simp only [gA, gB, gC]; rfl) (by kernel_rfl) (by kernel_rfl) (by kernel_rfl) (by exact fun _ _ _ h => h) (Or.inl ⟨by rfl, ?_⟩) (by assumption) ?_; rotate_left; (focus (intro w hSw; (try dsimp only at hSw); go_simp; try with_reducible rfl)); (try simp only [Act.put, sA, sB, sC])
  refine wpAnyH_take (i := 12) (v := ?_) (by simp only [gA, gB, gC]; rfl) (by kernel_rfl) (by kernel_rfl) (by kernel_rfl) (by exact fun _ _ _ h => h) (Or.inl ⟨by rfl, ?_⟩) (by assumption) ?_; rotate_left; (focus (intro w hSw; (try dsimp only at hSw); go_simp; try with_reducible rfl)); (try simp only [Act.put, sA, sB, sC])
  refine wpAnyH_ready (rs := [13]) (by kernel_rfl) (by simp) ?_
  refine AllReadyH.cons (by simp only [gA, gB, gC]; rfl) (fun K hK => ?_) AllReadyH.nil
  have hX6 := h5.x.setA (arC 8 d.a wd)
  have hO6 := own_set h5.own h5.vx 3 (.int .i64 (arC 8 d.a wd))
  have hB6 := (hB5.mono hLw).setCell (p := ⟨bx, 3, none⟩) h.lx (.int .i64 (arC 8 d.a wd))
  have hi6 := far_blk hi5 (show bx ≠ w.heap.size by omega) 3 (.int .i64 (arC 8 d.a wd))
  refine step_st rfl _ _ rfl ⟨bx, 3, none⟩ rfl (.int .i64 (arC 8 d.a wd)) rfl (int64_store _ _ _ _ h5.x.a (h5.x.free (by decide))) ?_
  (try simp only [Act.put, sA, sB, sC])
  refine hK.out _ _ (hi6) ?_
  clear hHeld hK
  intro hHeld
  (try simp only [Act.put, sA, sB, sC])
  refine wpAnyH_done (by kernel_rfl) ?_ _
  go_wp2_with fail
  refine bodyPost_end (v := .tuple #[]) (by simp [results, Try.results35, go_sem]) rfl ?_
  rw [heq.out]
  exact .ok v _ hX6 hO6 hB6
set_option maxRecDepth 8000 in
set_option maxHeartbeats 4000000 in
theorem cdo9 {bx bm L : Nat} {a : Option Addr} {cap : Nat} {m : List PG} {is : Bool} {s o y n : Int} {d : Cp} {v : Value} {w : World} (h : XO bx bm L a cap m is s o y n d v w) (p nn : Int) (hi : insE ⟨9, p, nn⟩ = 0) :
    Calls Try.prog 35 #[.pointer (some ⟨bx, 0, none⟩), .agg #[.int .i64 9, .int .i64 p, .int .i64 nn]] w (DoP bx bm L (.slice a m.length cap) n (opD d (m.map (·.g)) ⟨9, p, nn⟩) w) := by
  have hundI := Try.underlying64
  have hszI : (Try.prog.info? 64).map (·.size) = some 3 := by kernel_rfl
  have hi0 := blkl_alloc w (ins3 ⟨9, p, nn⟩).toArray 64
  have hB0 := alloc_below w (.cells (ins3 ⟨9, p, nn⟩).toArray 64)
  have h0 := h.keep hB0
  have hbx := h.x.lt
  have hLw : L ≤ w.heap.size := by have := h.lx; omega
  replace hi0 : BlkL w.heap.size (ins3 ⟨9, p, nn⟩) (w.alloc (.cells #[.int .i64 9, .int .i64 p, .int .i64 nn] 64)) := hi0
  replace hB0 : Below w.heap.size w (w.alloc (.cells #[.int .i64 9, .int .i64 p, .int .i64 nn] 64)) := hB0
  replace h0 : XO bx bm L a cap m is s o y n d v (w.alloc (.cells #[.int .i64 9, .int .i64 p, .int .i64 nn] 64)) := h0
  go_enter Try.func35, Try.ntmps35
  go_upto_region 1 with fail
  generalize w.alloc (.cells #[.int .i64 9, .int .i64 p, .int .i64 nn] 64) = W0 at *
  have x0 := (hi0.1 0 _ rfl).1
  have hri := hi0.range
  have kme := cmem_any bx d v (rest3 bm 0 false) h.ok ⟨9, p, nn⟩ hi W0 h0.x
  have krd := fun (W : World) h1 h2 => cread_any bm bx a cap m h.mg d v [.int .i64 0, .bool false] (memP d ⟨9, p, nn⟩) (kn (m.map (·.g)) (memP d ⟨9, p, nn⟩).s) rfl (rdE d (m.map (·.g)) ⟨9, p, nn⟩) rfl W h1 h2
  have hsg : kn (m.map (·.g)) (memP d ⟨9, p, nn⟩).s = mSeg d (m.map (·.g)) ⟨9, p, nn⟩ := rfl
  have hw : wAt (mSeg d (m.map (·.g)) ⟨9, p, nn⟩) (memP d ⟨9, p, nn⟩).f = rdW d (m.map (·.g)) ⟨9, p, nn⟩ := rfl
  simp only [hsg] at krd
  simp only [hw] at krd
  clear hsg hw
  obtain ⟨E, hE⟩ : ∃ E, rdE d (m.map (·.g)) ⟨9, p, nn⟩ = E := ⟨_, rfl⟩
  obtain ⟨wd, hwd⟩ : ∃ wd, rdW d (m.map (·.g)) ⟨9, p, nn⟩ = wd := ⟨_, rfl⟩
  rw [hE, hwd] at krd
  replace hE : Aside (rdE d (m.map (·.g)) ⟨9, p, nn⟩ = E) := hE
  replace hwd : Aside (rdW d (m.map (·.g)) ⟨9, p, nn⟩ = wd) := hwd
  generalize (mSeg d (m.map (·.g)) ⟨9, p, nn⟩).rg = rg at *
  generalize memP d ⟨9, p, nn⟩ = q at *
  have heq : Aside (opD d (m.map (·.g)) ⟨9, p, nn⟩ = if E ≠ 0 then flt E else okC { d with a := arC 9 d.a wd }) := by
    show _ = _
    rw [← hE.out, ← hwd.out]
    rfl
  go_wp2_with (first | (refine wpList_load_row rfl _ rfl w.heap.size rfl (ins3 ⟨9, p, nn⟩) hri hundI rfl hszI ?_) | fail)
  refine kme.mono ?_
  rintro e W1 ⟨rfl, hb⟩
  have h1 := h0.keep hb
  have hB1 := Below.then hB0 hb
  have hi1 := stab_blk _ _ _ _ hi0 hb
  clear kme h0 hB0 hb hri x0 hi0
  go_wp2_with fail
  refine (krd W1 h1.at h1.x).mono ?_
  rintro e W2 ⟨rfl, hb⟩
  have h2 := h1.keep hb
  have hB2 := Below.then hB1 hb
  have hi2 := stab_blk _ _ _ _ hi1 hb
  clear krd h1 hB1 hb hi1
  by_cases hE0 : E = 0
  rotate_left
  · rw [if_neg hE0]
    go_wp2_with fail
    refine diedC ?_
    rw [heq.out, if_pos hE0]
    exact .no hE0 rfl hB2
  rw [if_pos hE0]
  rw [if_neg (by simpa using hE0)] at heq
  clear hE0
  have hszR : (Try.prog.info? 55).map (·.size) = some 4 := by kernel_rfl
  obtain ⟨W4, hW4, hth4, -, hb4⟩ := put_new W2 (rg4 ⟨0, 0, 0, 0⟩).toArray 55 (rg4 rg) rfl (by show 0 < 4; decide)
  have h4 := h2.keep hb4
  have hB4 := Below.then hB2 hb4
  have hi4 := stab_blk _ _ _ _ hi2 hb4
  clear h2 hB2 hi2 hb4
  go_upto_region 19 with (first | (refine wpList_store_row rfl _ _ rfl W2.heap.size rfl (rg4 rg) rfl hth4 hszR (rg4_one _) hW4 ?_) | fail)
  have hdr := (Below.refl W4.heap.size W4).drew
  have h5 := h4.keep hdr
  have hB5 := Below.then hB4 hdr
  have hi5 := stab_blk _ _ _ _ hi4 hdr
  clear h4 hB4 hi4 hdr hW4 hth4
  refine wp_region_held_drew (S := (BlkL w.heap.size (ins3 ⟨9, p, nn⟩))) (by kernel_rfl) (by exact hi5) ?_
  intro hHeld
  generalize W4.drew = w0 at *
  refine wpAnyH_take (i := 0) (v := ?_) (by simp only [gA, gB, gC]; rfl) (by kernel_rfl) (by kernel_rfl) (by kernel_rfl) (by exact fun _ _ _ h => h) (Or.inl ⟨by rfl, ?_⟩) (by assumption) ?_; rotate_left; (focus (intro w hSw; (try dsimp only at hSw); go_simp; try with_reducible rfl)); (try simp only [Act.put, sA, sB, sC])
  refine wpAnyH_take (i := 1) (v := ?_) (by simp only [gA, gB, gC]; rfl) (by kernel_rfl) (by kernel_rfl) (by kernel_rfl) (by exact fun _ _ _ h => h) (Or.inl ⟨by rfl, ?_⟩) (by assumption) ?_; rotate_left; (focus (intro w hSw; (try dsimp only at hSw); go_simp; try with_reducible rfl)); (try simp only [Act.put, sA, sB, sC])
  refine wpAnyH_take (i := 2) (v := _) (by simp only [gA, gB, gC]; rfl) (by kernel_rfl) (by kernel_rfl) (by kernel_rfl) (by exact fun _ _ _ h => h) (yields_cellI (by rfl) _ rfl ⟨w.heap.size, 0, none⟩ rfl (.int .i64 9) (fun _ s => (s.1 0 _ rfl).1) intI_load) (by assumption) ?_; (try simp only [Act.put, sA, sB, sC])
  refine wpAnyH_take (i := 3) (v := ?_) (by simp only [gA, gB, gC]; rfl) (by kernel_rfl) (by kernel_rfl) (by kernel_rfl) (by exact fun _ _ _ h => h) (Or.inl ⟨by rfl, ?_⟩) (by assumption) ?_; rotate_left; (focus (intro w hSw; (try dsimp only at hSw); go_simp; try with_reducible rfl)); (try simp only [Act.put, sA, sB, sC])
  refine wpAnyH_take (i := 4) (v := ?_) (by simp only [gA, gB, gC]; rfl) (by kernel_rfl) (by kernel_rfl) (by kernel_rfl) (by exact fun _ _ _ h => h) (Or.inl ⟨by rfl, ?_⟩) (by assumption) ?_; rotate_left; (focus (intro w hSw; (try dsimp only at hSw); go_simp; try with_reducible rfl)); (try simp only [Act.put, sA, sB, sC])
  refine wpAnyH_take (i := 5) (v := ?_) (by simp only [gA, gB, gC]; rfl) (by kernel_rfl) (by kernel_rfl) (by kernel_rfl) (by exact fun _ _ _ h => h) (Or.inl ⟨by rfl, ?_⟩) (by assumption) ?_; rotate_left; (focus (intro w hSw; (try dsimp only at hSw); go_simp; try with_reducible rfl)); (try simp only [Act.put, sA, sB, sC])
  refine wpAnyH_take (i := 6) (v := ?_) (by simp only [gA, gB, gC]; rfl) (by kernel_rfl) (by kernel_rfl) (by kernel_rfl) (by exact fun _ _ _ h => h) (Or.inl ⟨by rfl, ?_⟩) (by assumption) ?_; rotate_left; (focus (intro w hSw; (try dsimp only at hSw); go_simp; try with_reducible rfl)); (try simp only [Act.put, sA, sB, sC])
  refine wpAnyH_take (i := 8) (v := ?_) (by simp only [gA, gB, gC]; rfl) (by kernel_rfl) (by kernel_rfl) (by kernel_rfl) (by exact fun _ _ _ h => h) (Or.inl ⟨by rfl, ?_⟩) (by assumption) ?_; rotate_left; (focus (intro w hSw; (try dsimp only at hSw); go_simp; try with_reducible rfl)); (try simp only [Act.put, sA, sB, sC])
  refine wpAnyH_ready (rs := [7]) (by kernel_rfl) (by simp) ?_
  refine AllReadyH.cons (by simp only [gA, gB, gC]; rfl) (fun K hK => ?_) AllReadyH.nil
  refine step_oneJ rfl _ rfl ⟨bx, 3, none⟩ rfl (.int .i64 d.a) h5.x.a int64_load ?_
  (try simp only [Act.put, sA, sB, sC])
  refine hK.out _ _ (hi5) ?_
  clear hHeld hK
  intro hHeld
  (try simp only [Act.put, sA, sB, sC])
  refine wpAnyH_ready (rs := [9]) (by kernel_rfl) (by simp) ?_
  refine AllReadyH.cons (by simp only [gA, gB, gC]; rfl) (fun K hK => ?_) AllReadyH.nil
  go_simp
  go_at_call 54
  refine (creck_any 9 d.a wd (by decide) w0).mono ?_
  rintro e w1 ⟨rfl, hb⟩
  replace h5 := h5.keep hb
  replace hB5 := Below.then hB5 hb
  replace hi5 := stab_blk _ _ _ _ hi5 hb
  clear hb
  refine hK.out _ _ (hi5) ?_
  clear hHeld hK
  intro hHeld
  (try simp only [Act.put, sA, sB, sC])
  refine wpAnyH_take (i := 10) (v := ?_) (by simp only [gA, gB, gC]; rfl) (by kernel_rfl) (by kernel_rfl) (by kernel_rfl) (by exact fun _ _ _ h => h) (Or.inl ⟨by rfl, ?_⟩) (by assumption) ?_; rotate_left; (focus (intro w hSw; (try dsimp only at hSw); go_simp; try with_reducible rfl)); (try simp only [Act.put, sA, sB, sC])
  refine wpAnyH_take (i := 11) (v := ?_) (by simp only [gA, gB, gC]; rfl) (by kernel_rfl) (by kernel_rfl) (by kernel_rfl) (by exact fun _ _ _ h => h) (Or.inl ⟨by rfl, ?_⟩) (by assumption) ?_; rotate_left; (focus (intro w hSw; (try dsimp only at hSw); go_simp; try with_reducible rfl)); (try simp only [Act.put, sA, sB, sC])
  refine wpAnyH_take (i := 12) (v := ?_) (by simp only [gA, gB, gC]; rfl) (by kernel_rfl) (by kernel_rfl) (by kernel_rfl) (by exact fun _ _ _ h => h) (Or.inl ⟨by rfl, ?_⟩) (by assumption) ?_; rotate_left; (focus (intro w hSw; (try dsimp only at hSw); go_simp; try with_reducible rfl)); (try simp only [Act.put, sA, sB, sC])
  refine wpAnyH_ready (rs := [13]) (by kernel_rfl) (by simp) ?_
  refine AllReadyH.cons (by simp only [gA, gB, gC]; rfl) (fun K hK => ?_) AllReadyH.nil
  have hX6 := h5.x.setA (arC 9 d.a wd)
  have hO6 := own_set h5.own h5.vx 3 (.int .i64 (arC 9 d.a wd))
  have hB6 := (hB5.mono hLw).setCell (p := ⟨bx, 3, none⟩) h.lx (.int .i64 (arC 9 d.a wd))
  have hi6 := far_blk hi5 (show bx ≠ w.heap.size by omega) 3 (.int .i64 (arC 9 d.a wd))
  refine step_st rfl _ _ rfl ⟨bx, 3, none⟩ rfl (.int .i64 (arC 9 d.a wd)) rfl (int64_store _ _ _ _ h5.x.a (h5.x.free (by decide))) ?_
  (try simp only [Act.put, sA, sB, sC])
  refine hK.out _ _ (hi6) ?_
  clear hHeld hK
  intro hHeld
  (try simp only [Act.put, sA, sB, sC])
  refine wpAnyH_done (by kernel_rfl) ?_ _
  go_wp2_with fail
  refine bodyPost_end (v := .tuple #[]) (by simp [results, Try.results35, go_sem]) rfl ?_
  rw [heq.out]
  exact .ok v _ hX6 hO6 hB6
set_option maxRecDepth 8000 in
set_option maxHeartbeats 4000000 in
theorem cdo10 {bx bm L : Nat} {a : Option Addr} {cap : Nat} {m : List PG} {is : Bool} {s o y n : Int} {d : Cp} {v : Value} {w : World} (h : XO bx bm L a cap m is s o y n d v w) (p nn : Int) (hi : insE ⟨10, p, nn⟩ = 0) :
    Calls Try.prog 35 #[.pointer (some ⟨bx, 0, none⟩), .agg #[.int .i64 10, .int .i64 p, .int .i64 nn]] w (DoP bx bm L (.slice a m.length cap) n (opD d (m.map (·.g)) ⟨10, p, nn⟩) w) := by
  have hundI := Try.underlying64
  have hszI : (Try.prog.info? 64).map (·.size) = some 3 := by kernel_rfl
  have hi0 := blkl_alloc w (ins3 ⟨10, p, nn⟩).toArray 64
  have hB0 := alloc_below w (.cells (ins3 ⟨10, p, nn⟩).toArray 64)
  have h0 := h.keep hB0
  have hbx := h.x.lt
  have hLw : L ≤ w.heap.size := by have := h.lx; omega
  replace hi0 : BlkL w.heap.size (ins3 ⟨10, p, nn⟩) (w.alloc (.cells #[.int .i64 10, .int .i64 p, .int .i64 nn] 64)) := hi0
  replace hB0 : Below w.heap.size w (w.alloc (.cells #[.int .i64 10, .int .i64 p, .int .i64 nn] 64)) := hB0
  replace h0 : XO bx bm L a cap m is s o y n d v (w.alloc (.cells #[.int .i64 10, .int .i64 p, .int .i64 nn] 64)) := h0
  go_enter Try.func35, Try.ntmps35
  go_upto_region 1 with fail
  generalize w.alloc (.cells #[.int .i64 10, .int .i64 p, .int .i64 nn] 64) = W0 at *
  have x0 := (hi0.1 0 _ rfl).1
  have hri := hi0.range
  have kme := cmem_any bx d v (rest3 bm 0 false) h.ok ⟨10, p, nn⟩ hi W0 h0.x
  have krd := fun (W : World) h1 h2 => cread_any bm bx a cap m h.mg d v [.int .i64 0, .bool false] (memP d ⟨10, p, nn⟩) (kn (m.map (·.g)) (memP d ⟨10, p, nn⟩).s) rfl (rdE d (m.map (·.g)) ⟨10, p, nn⟩) rfl W h1 h2
  have hsg : kn (m.map (·.g)) (memP d ⟨10, p, nn⟩).s = mSeg d (m.map (·.g)) ⟨10, p, nn⟩ := rfl
  have hw : wAt (mSeg d (m.map (·.g)) ⟨10, p, nn⟩) (memP d ⟨10, p, nn⟩).f = rdW d (m.map (·.g)) ⟨10, p, nn⟩ := rfl
  simp only [hsg] at krd
  simp only [hw] at krd
  clear hsg hw
  obtain ⟨E, hE⟩ : ∃ E, rdE d (m.map (·.g)) ⟨10, p, nn⟩ = E := ⟨_, rfl⟩
  obtain ⟨wd, hwd⟩ : ∃ wd, rdW d (m.map (·.g)) ⟨10, p, nn⟩ = wd := ⟨_, rfl⟩
  rw [hE, hwd] at krd
  replace hE : Aside (rdE d (m.map (·.g)) ⟨10, p, nn⟩ = E) := hE
  replace hwd : Aside (rdW d (m.map (·.g)) ⟨10, p, nn⟩ = wd) := hwd
  generalize (mSeg d (m.map (·.g)) ⟨10, p, nn⟩).rg = rg at *
  generalize memP d ⟨10, p, nn⟩ = q at *
  have heq : Aside (opD d (m.map (·.g)) ⟨10, p, nn⟩ = if E ≠ 0 then flt E else okC { d with a := arC 10 d.a wd }) := by
    show _ = _
    rw [← hE.out, ← hwd.out]
    rfl
  go_wp2_with (first | (refine wpList_load_row rfl _ rfl w.heap.size rfl (ins3 ⟨10, p, nn⟩) hri hundI rfl hszI ?_) | fail)
  refine kme.mono ?_
  rintro e W1 ⟨rfl, hb⟩
  have h1 := h0.keep hb
  have hB1 := Below.then hB0 hb
  have hi1 := stab_blk _ _ _ _ hi0 hb
  clear kme h0 hB0 hb hri x0 hi0
  go_wp2_with fail
  refine (krd W1 h1.at h1.x).mono ?_
  rintro e W2 ⟨rfl, hb⟩
  have h2 := h1.keep hb
  have hB2 := Below.then hB1 hb
  have hi2 := stab_blk _ _ _ _ hi1 hb
  clear krd h1 hB1 hb hi1
  by_cases hE0 : E = 0
  rotate_left
  · rw [if_neg hE0]
    go_wp2_with fail
    refine diedC ?_
    rw [heq.out, if_pos hE0]
    exact .no hE0 rfl hB2
  rw [if_pos hE0]
  rw [if_neg (by simpa using hE0)] at heq
  clear hE0
  have hszR : (Try.prog.info? 55).map (·.size) = some 4 := by kernel_rfl
  obtain ⟨W4, hW4, hth4, -, hb4⟩ := put_new W2 (rg4 ⟨0, 0, 0, 0⟩).toArray 55 (rg4 rg) rfl (by show 0 < 4; decide)
  have h4 := h2.keep hb4
  have hB4 := Below.then hB2 hb4
  have hi4 := stab_blk _ _ _ _ hi2 hb4
  clear h2 hB2 hi2 hb4
  go_upto_region 19 with (first | (refine wpList_store_row rfl _ _ rfl W2.heap.size rfl (rg4 rg) rfl hth4 hszR (rg4_one _) hW4 ?_) | fail)
  have hdr := (Below.refl W4.heap.size W4).drew
  have h5 := h4.keep hdr
  have hB5 := Below.then hB4 hdr
  have hi5 := stab_blk _ _ _ _ hi4 hdr
  clear h4 hB4 hi4 hdr hW4 hth4
  refine wp_region_held_drew (S := (BlkL w.heap.size (ins3 ⟨10, p, nn⟩))) (by kernel_rfl) (by exact hi5) ?_
  intro hHeld
  generalize W4.drew = w0 at *
  refine wpAnyH_take (i := 0) (v := ?_) (by simp only [gA, gB, gC]; rfl) (by kernel_rfl) (by kernel_rfl) (by kernel_rfl) (by exact fun _ _ _ h => h) (Or.inl ⟨by rfl, ?_⟩) (by assumption) ?_; rotate_left; (focus (intro w hSw; (try dsimp only at hSw); go_simp; try with_reducible rfl)); (try simp only [Act.put, sA, sB, sC])
  refine wpAnyH_take (i := 1) (v := ?_) (by simp only [gA, gB, gC]; rfl) (by kernel_rfl) (by kernel_rfl) (by kernel_rfl) (by exact fun _ _ _ h => h) (Or.inl ⟨by rfl, ?_⟩) (by assumption) ?_; rotate_left; (focus (intro w hSw; (try dsimp only at hSw); go_simp; try with_reducible rfl)); (try simp only [Act.put, sA, sB, sC])
  refine wpAnyH_take (i := 2) (v := _) (by simp only [gA, gB, gC]; rfl) (by kernel_rfl) (by kernel_rfl) (by kernel_rfl) (by exact fun _ _ _ h => h) (yields_cellI (by rfl) _ rfl ⟨w.heap.size, 0, none⟩ rfl (.int .i64 10) (fun _ s => (s.1 0 _ rfl).1) intI_load) (by assumption) ?_; (try simp only [Act.put, sA, sB, sC])
  refine wpAnyH_take (i := 3) (v := ?_) (by simp only [gA, gB, gC]; rfl) (by kernel_rfl) (by kernel_rfl) (by kernel_rfl) (by exact fun _ _ _ h => h) (Or.inl ⟨by rfl, ?_⟩) (by assumption) ?_; rotate_left; (focus (intro w hSw; (try dsimp only at hSw); go_simp; try with_reducible rfl)); (try simp only [Act.put, sA, sB, sC])
  refine wpAnyH_take (i := 4) (v := ?_) (by simp only [gA, gB, gC]; rfl) (by kernel_rfl) (by kernel_rfl) (by kernel_rfl) (by exact fun _ _ _ h => h) (Or.inl ⟨by rfl, ?_⟩) (by assumption) ?_; rotate_left; (focus (intro w hSw; (try dsimp only at hSw); go_simp; try with_reducible rfl)); (try simp only [Act.put, sA, sB, sC])
  refine wpAnyH_take (i := 5) (v := ?_) (by simp only [gA, gB, gC]; rfl) (by kernel_rfl) (by kernel_rfl) (by kernel_rfl) (by exact fun _ _ _ h => h) (Or.inl ⟨by rfl, ?_⟩) (by assumption) ?_; rotate_left; (focus (intro w hSw; (try dsimp only at hSw); go_simp; try with_reducible rfl)); (try simp only [Act.put, sA, sB, sC])
  refine wpAnyH_take (i := 6) (v := ?_) (by simp only [gA, gB, gC]; rfl) (by kernel_rfl) (by kernel_rfl) (by kernel_rfl) (by exact fun _ _ _ h => h) (Or.inl ⟨by rfl, ?_⟩) (by assumption) ?_; rotate_left; (focus (intro w hSw; (try dsimp only at hSw); go_simp; try with_reducible rfl)); (try simp only [Act.put, sA, sB, sC])
  refine wpAnyH_take (i := 8) (v := ?_) (by simp only [gA, gB, gC]; rfl) (by kernel_rfl) (by kernel_rfl) (by kernel_rfl) (by exact fun _ _ _ h => h) (Or.inl ⟨by rfl, ?_⟩) (by assumption) ?_; rotate_left; (focus (intro w hSw; (try dsimp only at hSw); go_simp; try with_reducible rfl)); (try simp only [Act.put, sA, sB, sC])
  refine wpAnyH_ready (rs := [7]) (by kernel_rfl) (by simp) ?_
  refine AllReadyH.cons (by simp only [gA, gB, gC]; rfl) (fun K hK => ?_) AllReadyH.nil
  refine step_oneJ rfl _ rfl ⟨bx, 3, none⟩ rfl (.int .i64 d.a) h5.x.a int64_load ?_
  (try simp only [Act.put, sA, sB, sC])
  refine hK.out _ _ (hi5) ?_
  clear hHeld hK
  intro hHeld
  (try simp only [Act.put, sA, sB, sC])
  refine wpAnyH_ready (rs := [9]) (by kernel_rfl) (by simp) ?_
  refine AllReadyH.cons (by simp only [gA, gB, gC]; rfl) (fun K hK => ?_) AllReadyH.nil
  go_simp
  go_at_call 54
  refine (creck_any 10 d.a wd (by decide) w0).mono ?_
  rintro e w1 ⟨rfl, hb⟩
  replace h5 := h5.keep hb
  replace hB5 := Below.then hB5 hb
  replace hi5 := stab_blk _ _ _ _ hi5 hb
  clear hb
  refine hK.out _ _ (hi5) ?_
  clear hHeld hK
  intro hHeld
  (try simp only [Act.put, sA, sB, sC])
  refine wpAnyH_take (i := 10) (v := ?_) (by simp only [gA, gB, gC]; rfl) (by kernel_rfl) (by kernel_rfl) (by kernel_rfl) (by exact fun _ _ _ h => h) (Or.inl ⟨by rfl, ?_⟩) (by assumption) ?_; rotate_left; (focus (intro w hSw; (try dsimp only at hSw); go_simp; try with_reducible rfl)); (try simp only [Act.put, sA, sB, sC])
  refine wpAnyH_take (i := 11) (v := ?_) (by simp only [gA, gB, gC]; rfl) (by kernel_rfl) (by kernel_rfl) (by kernel_rfl) (by exact fun _ _ _ h => h) (Or.inl ⟨by rfl, ?_⟩) (by assumption) ?_; rotate_left; (focus (intro w hSw; (try dsimp only at hSw); go_simp; try with_reducible rfl)); (try simp only [Act.put, sA, sB, sC])
  refine wpAnyH_take (i := 12) (v := ?_) (by simp only [gA, gB, gC]; rfl) (by kernel_rfl) (by kernel_rfl) (by kernel_rfl) (by exact fun _ _ _ h => h) (Or.inl ⟨by rfl, ?_⟩) (by assumption) ?_; rotate_left; (focus (intro w hSw; (try dsimp only at hSw); go_simp; try with_reducible rfl)); (try simp only [Act.put, sA, sB, sC])
  refine wpAnyH_ready (rs := [13]) (by kernel_rfl) (by simp) ?_
  refine AllReadyH.cons (by simp only [gA, gB, gC]; rfl) (fun K hK => ?_) AllReadyH.nil
  have hX6 := h5.x.setA (arC 10 d.a wd)
  have hO6 := own_set h5.own h5.vx 3 (.int .i64 (arC 10 d.a wd))
  have hB6 := (hB5.mono hLw).setCell (p := ⟨bx, 3, none⟩) h.lx (.int .i64 (arC 10 d.a wd))
  have hi6 := far_blk hi5 (show bx ≠ w.heap.size by omega) 3 (.int .i64 (arC 10 d.a wd))
  refine step_st rfl _ _ rfl ⟨bx, 3, none⟩ rfl (.int .i64 (arC 10 d.a wd)) rfl (int64_store _ _ _ _ h5.x.a (h5.x.free (by decide))) ?_
  (try simp only [Act.put, sA, sB, sC])
  refine hK.out _ _ (hi6) ?_
  clear hHeld hK
  intro hHeld
  (try simp only [Act.put, sA, sB, sC])
  refine wpAnyH_done (by kernel_rfl) ?_ _
  go_wp2_with fail
  refine bodyPost_end (v := .tuple #[]) (by simp [results, Try.results35, go_sem]) rfl ?_
  rw [heq.out]
  exact .ok v _ hX6 hO6 hB6
set_option maxRecDepth 8000 in
set_option maxHeartbeats 4000000 in
theorem cdo11 {bx bm L : Nat} {a : Option Addr} {cap : Nat} {m : List PG} {is : Bool} {s o y n : Int} {d : Cp} {v : Value} {w : World} (h : XO bx bm L a cap m is s o y n d v w) (p nn : Int) (hi : insE ⟨11, p, nn⟩ = 0) :
    Calls Try.prog 35 #[.pointer (some ⟨bx, 0, none⟩), .agg #[.int .i64 11, .int .i64 p, .int .i64 nn]] w (DoP bx bm L (.slice a m.length cap) n (opD d (m.map (·.g)) ⟨11, p, nn⟩) w) := by
  have hundI := Try.underlying64
  have hszI : (Try.prog.info? 64).map (·.size) = some 3 := by kernel_rfl
  have hi0 := blkl_alloc w (ins3 ⟨11, p, nn⟩).toArray 64
  have hB0 := alloc_below w (.cells (ins3 ⟨11, p, nn⟩).toArray 64)
  have h0 := h.keep hB0
  have hbx := h.x.lt
  have hLw : L ≤ w.heap.size := by have := h.lx; omega
  replace hi0 : BlkL w.heap.size (ins3 ⟨11, p, nn⟩) (w.alloc (.cells #[.int .i64 11, .int .i64 p, .int .i64 nn] 64)) := hi0
  replace hB0 : Below w.heap.size w (w.alloc (.cells #[.int .i64 11, .int .i64 p, .int .i64 nn] 64)) := hB0
  replace h0 : XO bx bm L a cap m is s o y n d v (w.alloc (.cells #[.int .i64 11, .int .i64 p, .int .i64 nn] 64)) := h0
  go_enter Try.func35, Try.ntmps35
  go_upto_region 1 with fail
  generalize w.alloc (.cells #[.int .i64 11, .int .i64 p, .int .i64 nn] 64) = W0 at *
  have x0 := (hi0.1 0 _ rfl).1
  have hri := hi0.range
  have kme := cmem_any bx d v (rest3 bm 0 false) h.ok ⟨11, p, nn⟩ hi W0 h0.x
  have krd := fun (W : World) h1 h2 => cread_any bm bx a cap m h.mg d v [.int .i64 0, .bool false] (memP d ⟨11, p, nn⟩) (kn (m.map (·.g)) (memP d ⟨11, p, nn⟩).s) rfl (rdE d (m.map (·.g)) ⟨11, p, nn⟩) rfl W h1 h2
  have hsg : kn (m.map (·.g)) (memP d ⟨11, p, nn⟩).s = mSeg d (m.map (·.g)) ⟨11, p, nn⟩ := rfl
  have hw : wAt (mSeg d (m.map (·.g)) ⟨11, p, nn⟩) (memP d ⟨11, p, nn⟩).f = rdW d (m.map (·.g)) ⟨11, p, nn⟩ := rfl
  simp only [hsg] at krd
  simp only [hw] at krd
  clear hsg hw
  obtain ⟨E, hE⟩ : ∃ E, rdE d (m.map (·.g)) ⟨11, p, nn⟩ = E := ⟨_, rfl⟩
  obtain ⟨wd, hwd⟩ : ∃ wd, rdW d (m.map (·.g)) ⟨11, p, nn⟩ = wd := ⟨_, rfl⟩
  rw [hE, hwd] at krd
  replace hE : Aside (rdE d (m.map (·.g)) ⟨11, p, nn⟩ = E) := hE
  replace hwd : Aside (rdW d (m.map (·.g)) ⟨11, p, nn⟩ = wd) := hwd
  generalize (mSeg d (m.map (·.g)) ⟨11, p, nn⟩).rg = rg at *
  generalize memP d ⟨11, p, nn⟩ = q at *
  have heq : Aside (opD d (m.map (·.g)) ⟨11, p, nn⟩ = if E ≠ 0 then flt E else okC { d with a := arC 11 d.a wd }) := by
    show _ = _
    rw [← hE.out, ← hwd.out]
    rfl
  go_wp2_with (first | (refine wpList_load_row rfl _ rfl w.heap.size rfl (ins3 ⟨11, p, nn⟩) hri hundI rfl hszI ?_) | fail)
  refine kme.mono ?_
  rintro e W1 ⟨rfl, hb⟩
  have h1 := h0.keep hb
  have hB1 := Below.then hB0 hb
  have hi1 := stab_blk _ _ _ _ hi0 hb
  clear kme h0 hB0 hb hri x0 hi0
  go_wp2_with fail
  refine (krd W1 h1.at h1.x).mono ?_
  rintro e W2 ⟨rfl, hb⟩
  have h2 := h1.keep hb
  have hB2 := Below.then hB1 hb
  have hi2 := stab_blk _ _ _ _ hi1 hb
  clear krd h1 hB1 hb hi1
  by_cases hE0 : E = 0
  rotate_left
  · rw [if_neg hE0]
    go_wp2_with fail
    refine diedC ?_
    rw [heq.out, if_pos hE0]
    exact .no hE0 rfl hB2
  rw [if_pos hE0]
  rw [if_neg (by simpa using hE0)] at heq
  clear hE0
  have hszR : (Try.prog.info? 55).map (·.size) = some 4 := by kernel_rfl
  obtain ⟨W4, hW4, hth4, -, hb4⟩ := put_new W2 (rg4 ⟨0, 0, 0, 0⟩).toArray 55 (rg4 rg) rfl (by show 0 < 4; decide)
  have h4 := h2.keep hb4
  have hB4 := Below.then hB2 hb4
  have hi4 := stab_blk _ _ _ _ hi2 hb4
  clear h2 hB2 hi2 hb4
  go_upto_region 19 with (first | (refine wpList_store_row rfl _ _ rfl W2.heap.size rfl (rg4 rg) rfl hth4 hszR (rg4_one _) hW4 ?_) | fail)
  have hdr := (Below.refl W4.heap.size W4).drew
  have h5 := h4.keep hdr
  have hB5 := Below.then hB4 hdr
  have hi5 := stab_blk _ _ _ _ hi4 hdr
  clear h4 hB4 hi4 hdr hW4 hth4
  refine wp_region_held_drew (S := (BlkL w.heap.size (ins3 ⟨11, p, nn⟩))) (by kernel_rfl) (by exact hi5) ?_
  intro hHeld
  generalize W4.drew = w0 at *
  refine wpAnyH_take (i := 0) (v := ?_) (by simp only [gA, gB, gC]; rfl) (by kernel_rfl) (by kernel_rfl) (by kernel_rfl) (by exact fun _ _ _ h => h) (Or.inl ⟨by rfl, ?_⟩) (by assumption) ?_; rotate_left; (focus (intro w hSw; (try dsimp only at hSw); go_simp; try with_reducible rfl)); (try simp only [Act.put, sA, sB, sC])
  refine wpAnyH_take (i := 1) (v := ?_) (by simp only [gA, gB, gC]; rfl) (by kernel_rfl) (by kernel_rfl) (by kernel_rfl) (by exact fun _ _ _ h => h) (Or.inl ⟨by rfl, ?_⟩) (by assumption) ?_; rotate_left; (focus (intro w hSw; (try dsimp only at hSw); go_simp; try with_reducible rfl)); (try simp only [Act.put, sA, sB, sC])
  refine wpAnyH_take (i := 2) (v := _) (by simp only [gA, gB, gC]; rfl) (by kernel_rfl) (by kernel_rfl) (by kernel_rfl) (by exact fun _ _ _ h => h) (yields_cellI (by rfl) _ rfl ⟨w.heap.size, 0, none⟩ rfl (.int .i64 11) (fun _ s => (s.1 0 _ rfl).1) intI_load) (by assumption) ?_; (try simp only [Act.put, sA, sB, sC])
  refine wpAnyH_take (i := 3) (v := ?_) (by simp only [gA, gB, gC]; rfl) (by kernel_rfl) (by kernel_rfl) (by kernel_rfl) (by exact fun _ _ _ h => h) (Or.inl ⟨by rfl, ?_⟩) (by assumption) ?_; rotate_left; (focus (intro w hSw; (try dsimp only at hSw); go_simp; try with_reducible rfl)); (try simp only [Act.put, sA, sB, sC])
  refine wpAnyH_take (i := 4) (v := ?_) (by simp only [gA, gB, gC]; rfl) (by kernel_rfl) (by kernel_rfl) (by kernel_rfl) (by exact fun _ _ _ h => h) (Or.inl ⟨by rfl, ?_⟩) (by assumption) ?_; rotate_left; (focus (intro w hSw; (try dsimp only at hSw); go_simp; try with_reducible rfl)); (try simp only [Act.put, sA, sB, sC])
  refine wpAnyH_take (i := 5) (v := ?_) (by simp only [gA, gB, gC]; rfl) (by kernel_rfl) (by kernel_rfl) (by kernel_rfl) (by exact fun _ _ _ h => h) (Or.inl ⟨by rfl, ?_⟩) (by assumption) ?_; rotate_left; (focus (intro w hSw; (try dsimp only at hSw); go_simp; try with_reducible rfl)); (try simp only [Act.put, sA, sB, sC])
  refine wpAnyH_take (i := 6) (v := ?_) (by simp only [gA, gB, gC]; rfl) (by kernel_rfl) (by kernel_rfl) (by kernel_rfl) (by exact fun _ _ _ h => h) (Or.inl ⟨by rfl, ?_⟩) (by assumption) ?_; rotate_left; (focus (intro w hSw; (try dsimp only at hSw); go_simp; try with_reducible rfl)); (try simp only [Act.put, sA, sB, sC])
  refine wpAnyH_take (i := 8) (v := ?_) (by simp only [gA, gB, gC]; rfl) (by kernel_rfl) (by kernel_rfl) (by kernel_rfl) (by exact fun _ _ _ h => h) (Or.inl ⟨by rfl, ?_⟩) (by assumption) ?_; rotate_left; (focus (intro w hSw; (try dsimp only at hSw); go_simp; try with_reducible rfl)); (try simp only [Act.put, sA, sB, sC])
  refine wpAnyH_ready (rs := [7]) (by kernel_rfl) (by simp) ?_
  refine AllReadyH.cons (by simp only [gA, gB, gC]; rfl) (fun K hK => ?_) AllReadyH.nil
  refine step_oneJ rfl _ rfl ⟨bx, 3, none⟩ rfl (.int .i64 d.a) h5.x.a int64_load ?_
  (try simp only [Act.put, sA, sB, sC])
  refine hK.out _ _ (hi5) ?_
  clear hHeld hK
  intro hHeld
  (try simp only [Act.put, sA, sB, sC])
  refine wpAnyH_ready (rs := [9]) (by kernel_rfl) (by simp) ?_
  refine AllReadyH.cons (by simp only [gA, gB, gC]; rfl) (fun K hK => ?_) AllReadyH.nil
  go_simp
  go_at_call 54
  refine (creck_any 11 d.a wd (by decide) w0).mono ?_
  rintro e w1 ⟨rfl, hb⟩
  replace h5 := h5.keep hb
  replace hB5 := Below.then hB5 hb
  replace hi5 := stab_blk _ _ _ _ hi5 hb
  clear hb
  refine hK.out _ _ (hi5) ?_
  clear hHeld hK
  intro hHeld
  (try simp only [Act.put, sA, sB, sC])
  refine wpAnyH_take (i := 10) (v := ?_) (by simp only [gA, gB, gC]; rfl) (by kernel_rfl) (by kernel_rfl) (by kernel_rfl) (by exact fun _ _ _ h => h) (Or.inl ⟨by rfl, ?_⟩) (by assumption) ?_; rotate_left; (focus (intro w hSw; (try dsimp only at hSw); go_simp; try with_reducible rfl)); (try simp only [Act.put, sA, sB, sC])
  refine wpAnyH_take (i := 11) (v := ?_) (by simp only [gA, gB, gC]; rfl) (by kernel_rfl) (by kernel_rfl) (by kernel_rfl) (by exact fun _ _ _ h => h) (Or.inl ⟨by rfl, ?_⟩) (by assumption) ?_; rotate_left; (focus (intro w hSw; (try dsimp only at hSw); go_simp; try with_reducible rfl)); (try simp only [Act.put, sA, sB, sC])
  refine wpAnyH_take (i := 12) (v := ?_) (by simp only [gA, gB, gC]; rfl) (by kernel_rfl) (by kernel_rfl) (by kernel_rfl) (by exact fun _ _ _ h => h) (Or.inl ⟨by rfl, ?_⟩) (by assumption) ?_; rotate_left; (focus (intro w hSw; (try dsimp only at hSw); go_simp; try with_reducible rfl)); (try simp only [Act.put, sA, sB, sC])
  refine wpAnyH_ready (rs := [13]) (by kernel_rfl) (by simp) ?_
  refine AllReadyH.cons (by simp only [gA, gB, gC]; rfl) (fun K hK => ?_) AllReadyH.nil
  have hX6 := h5.x.setA (arC 11 d.a wd)
  have hO6 := own_set h5.own h5.vx 3 (.int .i64 (arC 11 d.a wd))
  have hB6 := (hB5.mono hLw).setCell (p := ⟨bx, 3, none⟩) h.lx (.int .i64 (arC 11 d.a wd))
  have hi6 := far_blk hi5 (show bx ≠ w.heap.size by omega) 3 (.int .i64 (arC 11 d.a wd))
  refine step_st rfl _ _ rfl ⟨bx, 3, none⟩ rfl (.int .i64 (arC 11 d.a wd)) rfl (int64_store _ _ _ _ h5.x.a (h5.x.free (by decide))) ?_
  (try simp only [Act.put, sA, sB, sC])
  refine hK.out _ _ (hi6) ?_
  clear hHeld hK
  intro hHeld
  (try simp only [Act.put, sA, sB, sC])
  refine wpAnyH_done (by kernel_rfl) ?_ _
  go_wp2_with fail
  refine bodyPost_end (v := .tuple #[]) (by simp [results, Try.results35, go_sem]) rfl ?_
  rw [heq.out]
  exact .ok v _ hX6 hO6 hB6
end Go.Proofs.Ytinibccphecdfaa

/-! PACKAGE cpu AS IT LANDED: what an operation does (do). Written by mk_cpufnl.py. -/
namespace Go.Proofs.Ytinibccphecdfaa
open Go.RowKit
set_option maxRecDepth 8000
set_option linter.unusedSimpArgs false
set_option linter.unusedVariables false

/-- What getp's region keeps. -/
structure SG (bi bx pk : Nat) (i : Ins) (P : Ptr) (W : World) : Prop where
  i : BlkL bi (ins3 i) W
  p : W.rangeAt bx (4 + pk * 3) (ptr3 P)
theorem SG.keep {bi bx pk : Nat} {i : Ins} {P : Ptr} {W W' : World} (h : SG bi bx pk i P W) (hb : Below W.heap.size W W') : SG bi bx pk i P W' := ⟨stab_blk _ _ _ _ h.i hb, fun j u hu => (hb.cell (World.block_lt_of_cell? _ _ (h.p j u hu))).trans (h.p j u hu)⟩
set_option maxRecDepth 8000 in
set_option maxHeartbeats 4000000 in
theorem cdo2 {bx bm L : Nat} {a : Option Addr} {cap : Nat} {m : List PG} {is : Bool} {s o y n : Int} {d : Cp} {v : Value} {w : World} (h : XO bx bm L a cap m is s o y n d v w) (p nn : Int) (hi : insE ⟨2, p, nn⟩ = 0) :
    Calls Try.prog 35 #[.pointer (some ⟨bx, 0, none⟩), .agg #[.int .i64 2, .int .i64 p, .int .i64 nn]] w (DoP bx bm L (.slice a m.length cap) n (opD d (m.map (·.g)) ⟨2, p, nn⟩) w) := by
  have hundI := Try.underlying64
  have hszI : (Try.prog.info? 64).map (·.size) = some 3 := by kernel_rfl
  have hi0 := blkl_alloc w (ins3 ⟨2, p, nn⟩).toArray 64
  have hB0 := alloc_below w (.cells (ins3 ⟨2, p, nn⟩).toArray 64)
  have h0 := h.keep hB0
  have hbx := h.x.lt
  have hLw : L ≤ w.heap.size := by have := h.lx; omega
  replace hi0 : BlkL w.heap.size (ins3 ⟨2, p, nn⟩) (w.alloc (.cells #[.int .i64 2, .int .i64 p, .int .i64 nn] 64)) := hi0
  replace hB0 : Below w.heap.size w (w.alloc (.cells #[.int .i64 2, .int .i64 p, .int .i64 nn] 64)) := hB0
  replace h0 : XO bx bm L a cap m is s o y n d v (w.alloc (.cells #[.int .i64 2, .int .i64 p, .int .i64 nn] 64)) := h0
  go_enter Try.func35, Try.ntmps35
  go_upto_region 1 with fail
  generalize w.alloc (.cells #[.int .i64 2, .int .i64 p, .int .i64 nn] 64) = W0 at *
  have x0 := (hi0.1 0 _ rfl).1
  have hri := hi0.range
  have kme := cmem_any bx d v (rest3 bm 0 false) h.ok ⟨2, p, nn⟩ hi W0 h0.x
  have kwr := fun (W : World) (hh : XO bx bm L a cap m is s o y n d v W) => cwrite_any bm bx a cap m h.mg d v [.int .i64 0, .bool false] (memP d ⟨2, p, nn⟩) (kn (m.map (·.g)) (memP d ⟨2, p, nn⟩).s) rfl (wrE d (m.map (·.g)) ⟨2, p, nn⟩) rfl is s o y n h.nb W hh.mem hh.row hh.x (by have := h.lx; have := h.bl; omega)
  obtain ⟨E, hE⟩ : ∃ E, wrE d (m.map (·.g)) ⟨2, p, nn⟩ = E := ⟨_, rfl⟩
  have heq : Aside (opD d (m.map (·.g)) ⟨2, p, nn⟩ = if E ≠ 0 then flt E else ⟨0, d, some ((memP d ⟨2, p, nn⟩).s, (memP d ⟨2, p, nn⟩).f, d.a), 0, false⟩) := by
    show _ = _
    rw [← hE]
    rfl
  rw [hE] at kwr
  clear hE
  generalize memP d ⟨2, p, nn⟩ = q at *
  go_wp2_with (first | (refine wpList_load_row rfl _ rfl w.heap.size rfl (ins3 ⟨2, p, nn⟩) hri hundI rfl hszI ?_) | fail)
  refine kme.mono ?_
  rintro e W1 ⟨rfl, hb⟩
  have h1 := h0.keep hb
  have hB1 := Below.then hB0 hb
  clear kme h0 hB0 hb hri x0 hi0
  go_wp2_with fail
  refine (kwr W1 h1).mono ?_
  rintro e W2 (⟨hE, rfl, hb⟩ | ⟨hE, ⟨rr, rfl⟩, hN2, hS2⟩)
  · go_wp2_with fail
    refine diedC ?_
    rw [heq.out, if_pos hE]
    exact .no hE rfl (Below.then hB1 hb)
  · go_wp2_with fail
    refine bodyPost_end (v := .tuple #[]) (by simp [results, Try.results35, go_sem]) rfl ?_
    rw [heq.out, if_neg (by simpa using hE)]
    have hl := h.lx
    have hbl := h.bl
    refine .inr ⟨rfl, ⟨_, rfl⟩, v, h1.x.same (hS2.block bx h1.x.lt (by omega)) hS2.size, h1.own.keep (fun k hk => hS2.block k (h1.own.lt hk).2 (by have := (h1.own.lt hk).1; omega)), hN2, ?_⟩
    exact (Sole.of hB1).trans hS2
set_option maxRecDepth 8000 in
set_option maxHeartbeats 4000000 in
theorem cdo19 {bx bm L : Nat} {a : Option Addr} {cap : Nat} {m : List PG} {is : Bool} {s o y n : Int} {d : Cp} {v : Value} {w : World} (h : XO bx bm L a cap m is s o y n d v w) (p nn : Int) (hi : insE ⟨19, p, nn⟩ = 0) :
    Calls Try.prog 35 #[.pointer (some ⟨bx, 0, none⟩), .agg #[.int .i64 19, .int .i64 p, .int .i64 nn]] w (DoP bx bm L (.slice a m.length cap) n (opD d (m.map (·.g)) ⟨19, p, nn⟩) w) := by
  have hundI := Try.underlying64
  have hszI : (Try.prog.info? 64).map (·.size) = some 3 := by kernel_rfl
  have hi0 := blkl_alloc w (ins3 ⟨19, p, nn⟩).toArray 64
  have hB0 := alloc_below w (.cells (ins3 ⟨19, p, nn⟩).toArray 64)
  have h0 := h.keep hB0
  have hbx := h.x.lt
  have hLw : L ≤ w.heap.size := by have := h.lx; omega
  replace hi0 : BlkL w.heap.size (ins3 ⟨19, p, nn⟩) (w.alloc (.cells #[.int .i64 19, .int .i64 p, .int .i64 nn] 64)) := hi0
  replace hB0 : Below w.heap.size w (w.alloc (.cells #[.int .i64 19, .int .i64 p, .int .i64 nn] 64)) := hB0
  replace h0 : XO bx bm L a cap m is s o y n d v (w.alloc (.cells #[.int .i64 19, .int .i64 p, .int .i64 nn] 64)) := h0
  obtain ⟨pk, hpk, hp4⟩ : ∃ pk : Nat, p = (pk : Int) ∧ pk < 4 := by
    obtain ⟨-, p0, p1, -⟩ := insE_zero.1 hi
    replace p0 : 0 ≤ p := p0
    replace p1 : p ≤ 3 := p1
    exact ⟨p.toNat, by omega, by omega⟩
  replace hpk : Aside (p = (pk : Int)) := hpk
  go_enter Try.func35, Try.ntmps35
  go_upto_region 1 with fail
  generalize w.alloc (.cells #[.int .i64 19, .int .i64 p, .int .i64 nn] 64) = W0 at *
  have x0 := (hi0.1 0 _ rfl).1
  have hri := hi0.range
  have hundP := Try.underlying24
  have hszP : (Try.prog.info? 24).map (·.size) = some 3 := by kernel_rfl
  obtain ⟨P, hP⟩ : ∃ P, d.ps.getD pk ⟨0, 0, 0⟩ = P := ⟨_, rfl⟩
  have ken := fun (W : World) => iencp_any P W
  have heq : Aside (opD d (m.map (·.g)) ⟨19, p, nn⟩ = okC { d with a := ptrW P }) := by
    show _ = _
    rw [← hP]
    show okC { d with a := ptrW (d.ps.getD p.toNat ⟨0, 0, 0⟩) } = _
    rw [show p.toNat = pk by rw [hpk.out, Int.toNat_natCast]]
  replace hP : Aside (d.ps.getD pk ⟨0, 0, 0⟩ = P) := hP
  have j1 : (pk : Int) < 4 := by omega
  have j2 : ¬ (pk : Int) < 0 := by omega
  go_upto_region 33 with fail
  have hdr := (Below.refl W0.heap.size W0).drew
  have h5 := h0.keep hdr
  have hB5 := Below.then hB0 hdr
  have hS5 : SG w.heap.size bx pk ⟨19, p, nn⟩ P W0.drew := ⟨stab_blk _ _ _ _ hi0 hdr, by have := h5.x.ptr hp4; rw [hP.out] at this; exact this⟩
  clear h0 hB0 hi0 hdr hri x0
  refine wp_region_held_drew (S := (SG w.heap.size bx pk ⟨19, p, nn⟩ P)) (by kernel_rfl) (by exact hS5) ?_
  intro hHeld
  generalize W0.drew = w0 at *
  refine wpAnyH_take (i := 0) (v := ?_) (by simp only [gA, gB, gC]; rfl) (by kernel_rfl) (by kernel_rfl) (by kernel_rfl) (by exact fun _ _ _ h => h) (Or.inl ⟨by rfl, ?_⟩) (by assumption) ?_; rotate_left; (focus (intro w hSw; (try dsimp only at hSw); go_simp; try with_reducible rfl)); (try simp only [Act.put, sA, sB, sC])
  refine wpAnyH_take (i := 1) (v := ?_) (by simp only [gA, gB, gC]; rfl) (by kernel_rfl) (by kernel_rfl) (by kernel_rfl) (by exact fun _ _ _ h => h) (Or.inl ⟨by rfl, ?_⟩) (by assumption) ?_; rotate_left; (focus (intro w hSw; (try dsimp only at hSw); go_simp; try with_reducible rfl)); (try simp only [Act.put, sA, sB, sC])
  refine wpAnyH_take (i := 2) (v := ?_) (by simp only [gA, gB, gC]; rfl) (by kernel_rfl) (by kernel_rfl) (by kernel_rfl) (by exact fun _ _ _ h => h) (Or.inl ⟨by rfl, ?_⟩) (by assumption) ?_; rotate_left; (focus (intro w hSw; (try dsimp only at hSw); go_simp; try with_reducible rfl)); (try simp only [Act.put, sA, sB, sC])
  refine wpAnyH_take (i := 3) (v := _) (by simp only [gA, gB, gC]; rfl) (by kernel_rfl) (by kernel_rfl) (by kernel_rfl) (by exact fun _ _ _ h => h) (yields_cellI (by rfl) _ rfl ⟨w.heap.size, 1, none⟩ rfl (.int .i64 (pk : Int)) (fun _ s => by rw [← hpk.out]; exact (s.i.1 1 _ rfl).1) intI_load) (by assumption) ?_; (try simp only [Act.put, sA, sB, sC])
  refine wpAnyH_take (i := 4) (v := ?_) (by simp only [gA, gB, gC]; rfl) (by kernel_rfl) (by kernel_rfl) (by kernel_rfl) (by exact fun _ _ _ h => h) (Or.inl ⟨by rfl, ?_⟩) (by assumption) ?_; rotate_left; (focus (intro w hSw; (try dsimp only at hSw); go_simp; try with_reducible rfl)); (try simp only [Act.put, sA, sB, sC])
  refine wpAnyH_take (i := 5) (v := ?_) (by simp only [gA, gB, gC]; rfl) (by kernel_rfl) (by kernel_rfl) (by kernel_rfl) (by exact fun _ _ _ h => h) (Or.inl ⟨by rfl, ?_⟩) (by assumption) ?_; rotate_left; (focus (intro w hSw; (try dsimp only at hSw); go_simp; try with_reducible rfl)); (try simp only [Act.put, sA, sB, sC])
  refine wpAnyH_take (i := 6) (v := ?_) (by simp only [gA, gB, gC]; rfl) (by kernel_rfl) (by kernel_rfl) (by kernel_rfl) (by exact fun _ _ _ h => h) (Or.inl ⟨by rfl, ?_⟩) (by assumption) ?_; rotate_left; (focus (intro w hSw; (try dsimp only at hSw); go_simp; try with_reducible rfl)); (try simp only [Act.put, sA, sB, sC])
  refine wpAnyH_take (i := 7) (v := ?_) (by simp only [gA, gB, gC]; rfl) (by kernel_rfl) (by kernel_rfl) (by kernel_rfl) (by exact fun _ _ _ h => h) (Or.inl ⟨by rfl, ?_⟩) (by assumption) ?_; rotate_left; (focus (intro w hSw; (try dsimp only at hSw); go_simp; try with_reducible rfl)); (try simp only [Act.put, sA, sB, sC])
  refine wpAnyH_take (i := 8) (v := _) (by simp only [gA, gB, gC]; rfl) (by kernel_rfl) (by kernel_rfl) (by kernel_rfl) (by exact fun _ _ _ h => h) (yieldsIf_load_mid (by rfl) 24 _ rfl bx (4 + pk * 3) rfl (ptr3 P) _ (fun _ s => s.p) hundP rfl hszP) (by assumption) ?_; (try simp only [Act.put, sA, sB, sC])
  refine wpAnyH_ready (rs := [9]) (by kernel_rfl) (by simp) ?_
  refine AllReadyH.cons (by simp only [gA, gB, gC]; rfl) (fun K hK => ?_) AllReadyH.nil
  go_simp
  go_at_call 60
  refine (ken w0).mono ?_
  rintro e w1 ⟨rfl, hb⟩
  replace h5 := h5.keep hb
  replace hB5 := Below.then hB5 hb
  replace hS5 := hS5.keep hb
  clear hb
  refine hK.out _ _ (hS5) ?_
  clear hHeld hK
  intro hHeld
  (try simp only [Act.put, sA, sB, sC])
  refine wpAnyH_take (i := 10) (v := ?_) (by simp only [gA, gB, gC]; rfl) (by kernel_rfl) (by kernel_rfl) (by kernel_rfl) (by exact fun _ _ _ h => h) (Or.inl ⟨by rfl, ?_⟩) (by assumption) ?_; rotate_left; (focus (intro w hSw; (try dsimp only at hSw); go_simp; try with_reducible rfl)); (try simp only [Act.put, sA, sB, sC])
  refine wpAnyH_take (i := 11) (v := ?_) (by simp only [gA, gB, gC]; rfl) (by kernel_rfl) (by kernel_rfl) (by kernel_rfl) (by exact fun _ _ _ h => h) (Or.inl ⟨by rfl, ?_⟩) (by assumption) ?_; rotate_left; (focus (intro w hSw; (try dsimp only at hSw); go_simp; try with_reducible rfl)); (try simp only [Act.put, sA, sB, sC])
  refine wpAnyH_take (i := 12) (v := ?_) (by simp only [gA, gB, gC]; rfl) (by kernel_rfl) (by kernel_rfl) (by kernel_rfl) (by exact fun _ _ _ h => h) (Or.inl ⟨by rfl, ?_⟩) (by assumption) ?_; rotate_left; (focus (intro w hSw; (try dsimp only at hSw); go_simp; try with_reducible rfl)); (try simp only [Act.put, sA, sB, sC])
  refine wpAnyH_ready (rs := [13]) (by kernel_rfl) (by simp) ?_
  refine AllReadyH.cons (by simp only [gA, gB, gC]; rfl) (fun K hK => ?_) AllReadyH.nil
  have hX6 := h5.x.setA (ptrW P)
  have hO6 := own_set h5.own h5.vx 3 (.int .i64 (ptrW P))
  have hB6 := (hB5.mono hLw).setCell (p := ⟨bx, 3, none⟩) h.lx (.int .i64 (ptrW P))
  have hS6 : SG w.heap.size bx pk ⟨19, p, nn⟩ P (w1.setCell ⟨bx, 3, none⟩ (.int .i64 (ptrW P))) := ⟨far_blk hS5.i (show bx ≠ w.heap.size by omega) 3 _, by have := hX6.ptr hp4; rw [show ({ d with a := ptrW P } : Cp).ps.getD pk ⟨0, 0, 0⟩ = P from hP.out] at this; exact this⟩
  refine step_st rfl _ _ rfl ⟨bx, 3, none⟩ rfl (.int .i64 (ptrW P)) rfl (int64_store _ _ _ _ h5.x.a (h5.x.free (by decide))) ?_
  (try simp only [Act.put, sA, sB, sC])
  refine hK.out _ _ (hS6) ?_
  clear hHeld hK
  intro hHeld
  (try simp only [Act.put, sA, sB, sC])
  refine wpAnyH_done (by kernel_rfl) ?_ _
  go_wp2_with fail
  refine bodyPost_end (v := .tuple #[]) (by simp [results, Try.results35, go_sem]) rfl ?_
  rw [heq.out]
  exact .ok v _ hX6 hO6 hB6
set_option maxRecDepth 8000 in
set_option maxHeartbeats 4000000 in
theorem cdo20 {bx bm L : Nat} {a : Option Addr} {cap : Nat} {m : List PG} {is : Bool} {s o y n : Int} {d : Cp} {v : Value} {w : World} (h : XO bx bm L a cap m is s o y n d v w) (p nn : Int) (hi : insE ⟨20, p, nn⟩ = 0) :
    Calls Try.prog 35 #[.pointer (some ⟨bx, 0, none⟩), .agg #[.int .i64 20, .int .i64 p, .int .i64 nn]] w (DoP bx bm L (.slice a m.length cap) n (opD d (m.map (·.g)) ⟨20, p, nn⟩) w) := by
  have hundI := Try.underlying64
  have hszI : (Try.prog.info? 64).map (·.size) = some 3 := by kernel_rfl
  have hi0 := blkl_alloc w (ins3 ⟨20, p, nn⟩).toArray 64
  have hB0 := alloc_below w (.cells (ins3 ⟨20, p, nn⟩).toArray 64)
  have h0 := h.keep hB0
  have hbx := h.x.lt
  have hLw : L ≤ w.heap.size := by have := h.lx; omega
  replace hi0 : BlkL w.heap.size (ins3 ⟨20, p, nn⟩) (w.alloc (.cells #[.int .i64 20, .int .i64 p, .int .i64 nn] 64)) := hi0
  replace hB0 : Below w.heap.size w (w.alloc (.cells #[.int .i64 20, .int .i64 p, .int .i64 nn] 64)) := hB0
  replace h0 : XO bx bm L a cap m is s o y n d v (w.alloc (.cells #[.int .i64 20, .int .i64 p, .int .i64 nn] 64)) := h0
  go_enter Try.func35, Try.ntmps35
  go_upto_region 1 with fail
  generalize w.alloc (.cells #[.int .i64 20, .int .i64 p, .int .i64 nn] 64) = W0 at *
  have x0 := (hi0.1 0 _ rfl).1
  have hri := hi0.range
  have kme := cmem_any bx d v (rest3 bm 0 false) h.ok ⟨20, p, nn⟩ hi W0 h0.x
  have kcl := fun (W : World) (hh : XO bx bm L a cap m is s o y n d v W) => ccall_any bm bx L a cap m h.mg d v [.int .i64 0, .bool false] h.ok.st (memP d ⟨20, p, nn⟩) (mSeg d (m.map (·.g)) ⟨20, p, nn⟩) rfl (clG (mSeg d (m.map (·.g)) ⟨20, p, nn⟩) (memP d ⟨20, p, nn⟩) d.st.length) rfl W hh.at hh.x hh.own hh.lx hh.vx
  obtain ⟨E, hE⟩ : ∃ E, clG (mSeg d (m.map (·.g)) ⟨20, p, nn⟩) (memP d ⟨20, p, nn⟩) d.st.length = E := ⟨_, rfl⟩
  have heq : Aside (opD d (m.map (·.g)) ⟨20, p, nn⟩ = if E ≠ 0 then flt E else okC (clD d (mSeg d (m.map (·.g)) ⟨20, p, nn⟩) (memP d ⟨20, p, nn⟩))) := by
    show _ = _
    rw [← hE]
    rfl
  rw [hE] at kcl
  clear hE
  generalize mSeg d (m.map (·.g)) ⟨20, p, nn⟩ = g at *
  generalize memP d ⟨20, p, nn⟩ = q at *
  go_wp2_with (first | (refine wpList_load_row rfl _ rfl w.heap.size rfl (ins3 ⟨20, p, nn⟩) hri hundI rfl hszI ?_) | fail)
  refine kme.mono ?_
  rintro e W1 ⟨rfl, hb⟩
  have h1 := h0.keep hb
  have hB1 := Below.then hB0 hb
  clear kme h0 hB0 hb hri x0 hi0
  go_wp2_with fail
  refine (kcl W1 h1).mono ?_
  rintro e W2 (⟨hE, rfl, hb⟩ | ⟨hE, ⟨rr, rfl⟩, v2, hX2, hO2, hB2⟩)
  · go_wp2_with fail
    refine diedC ?_
    rw [heq.out, if_pos hE]
    exact .no hE rfl (Below.then hB1 hb)
  · go_wp2_with fail
    refine bodyPost_end (v := .tuple #[]) (by simp [results, Try.results35, go_sem]) rfl ?_
    rw [heq.out, if_neg (by simpa using hE)]
    exact .ok v2 _ hX2 hO2 ((hB1.mono hLw).trans hB2)
set_option maxRecDepth 8000 in
set_option maxHeartbeats 4000000 in
theorem cdo21 {bx bm L : Nat} {a : Option Addr} {cap : Nat} {m : List PG} {is : Bool} {s o y n : Int} {d : Cp} {v : Value} {w : World} (h : XO bx bm L a cap m is s o y n d v w) (p nn : Int) (hi : insE ⟨21, p, nn⟩ = 0) :
    Calls Try.prog 35 #[.pointer (some ⟨bx, 0, none⟩), .agg #[.int .i64 21, .int .i64 p, .int .i64 nn]] w (DoP bx bm L (.slice a m.length cap) n (opD d (m.map (·.g)) ⟨21, p, nn⟩) w) := by
  have hundI := Try.underlying64
  have hszI : (Try.prog.info? 64).map (·.size) = some 3 := by kernel_rfl
  have hi0 := blkl_alloc w (ins3 ⟨21, p, nn⟩).toArray 64
  have hB0 := alloc_below w (.cells (ins3 ⟨21, p, nn⟩).toArray 64)
  have h0 := h.keep hB0
  have hbx := h.x.lt
  have hLw : L ≤ w.heap.size := by have := h.lx; omega
  replace hi0 : BlkL w.heap.size (ins3 ⟨21, p, nn⟩) (w.alloc (.cells #[.int .i64 21, .int .i64 p, .int .i64 nn] 64)) := hi0
  replace hB0 : Below w.heap.size w (w.alloc (.cells #[.int .i64 21, .int .i64 p, .int .i64 nn] 64)) := hB0
  replace h0 : XO bx bm L a cap m is s o y n d v (w.alloc (.cells #[.int .i64 21, .int .i64 p, .int .i64 nn] 64)) := h0
  go_enter Try.func35, Try.ntmps35
  go_upto_region 1 with fail
  generalize w.alloc (.cells #[.int .i64 21, .int .i64 p, .int .i64 nn] 64) = W0 at *
  have x0 := (hi0.1 0 _ rfl).1
  have hri := hi0.range
  have kcl := cret_any bx L d v (rest3 bm 0 false) h.ok.st (rtE d) rfl W0 h0.x h0.own h0.lx h0.vx
  have heq : Aside (opD d (m.map (·.g)) ⟨21, p, nn⟩ = if rtE d ≠ 0 then flt (rtE d) else okC (rtD d)) := rfl
  go_wp2_with fail
  refine kcl.mono ?_
  rintro e W2 (⟨hE, rfl, hb⟩ | ⟨hE, ⟨rr, rfl⟩, v2, hX2, hO2, hB2⟩)
  · go_wp2_with fail
    refine diedC ?_
    rw [heq.out, if_pos hE]
    exact .no hE rfl (Below.then hB0 hb)
  · go_wp2_with fail
    refine bodyPost_end (v := .tuple #[]) (by simp [results, Try.results35, go_sem]) rfl ?_
    rw [heq.out, if_neg (by simpa using hE)]
    exact .ok v2 _ hX2 hO2 ((hB0.mono hLw).trans hB2)
/-- What an operation does. -/
theorem cdo_any {bx bm L : Nat} {a : Option Addr} {cap : Nat} {m : List PG} {is : Bool} {s o y n : Int} {d : Cp} {v : Value} {w : World} (h : XO bx bm L a cap m is s o y n d v w) (i : Ins) (hi : insE i = 0) :
    Calls Try.prog 35 #[.pointer (some ⟨bx, 0, none⟩), .agg (ins3 i).toArray] w (DoP bx bm L (.slice a m.length cap) n (opD d (m.map (·.g)) i) w) := by
  obtain ⟨k, p, nn⟩ := i
  obtain ⟨⟨o0, o1⟩, -⟩ := insE_zero.1 hi
  obtain ⟨j, hj, hj2⟩ : ∃ j : Nat, k = (j : Int) ∧ j < 23 := by
    replace o0 : 0 ≤ k := o0
    replace o1 : k ≤ 22 := o1
    exact ⟨k.toNat, by omega, by omega⟩
  subst hj
  match j, hj2 with
  | 0, _ => exact cdo0 h p nn hi
  | 1, _ => exact cdo1 h p nn hi
  | 2, _ => exact cdo2 h p nn hi
  | 3, _ => exact cdo3 h p nn hi
  | 4, _ => exact cdo4 h p nn hi
  | 5, _ => exact cdo5 h p nn hi
  | 6, _ => exact cdo6 h p nn hi
  | 7, _ => exact cdo7 h p nn hi
  | 8, _ => exact cdo8 h p nn hi
  | 9, _ => exact cdo9 h p nn hi
  | 10, _ => exact cdo10 h p nn hi
  | 11, _ => exact cdo11 h p nn hi
  | 12, _ => exact cdo12 h p nn hi
  | 13, _ => exact cdo13 h p nn hi
  | 14, _ => exact cdo14 h p nn hi
  | 15, _ => exact cdo15 h p nn hi
  | 16, _ => exact cdo16 h p nn hi
  | 17, _ => exact cdo17 h p nn hi
  | 18, _ => exact cdo18 h p nn hi
  | 19, _ => exact cdo19 h p nn hi
  | 20, _ => exact cdo20 h p nn hi
  | 21, _ => exact cdo21 h p nn hi
  | 22, _ => exact cdo22 h p nn hi
end Go.Proofs.Ytinibccphecdfaa

/-! PACKAGE cpu AS IT LANDED: what was panicked deep within a step is recovered where it began; the callers, copied. -/
namespace Go.Proofs.Ytinibccphecdfaa
open Go.RowKit
set_option maxRecDepth 8000
set_option linter.unusedSimpArgs false
set_option linter.unusedVariables false

/-- A step's four answers, each in a block of its own. -/
structure R4 (b : Nat) (t : List Value) (o : Int) (td : Bool) (e : Int) (W : World) : Prop where
  s : BlkL (b + 1) t W
  o : BlkL (b + 2) [.int .i64 o] W
  t : BlkL (b + 3) [.bool td] W
  e : BlkL (b + 4) [.int .i64 e] W
theorem R4.same {b : Nat} {t : List Value} {o e : Int} {td : Bool} {W W' : World} (h : R4 b t o td e W) (hb : ∀ j, j < b + 5 → b < j → W'.heap[j]? = W.heap[j]?) (hs : W.heap.size ≤ W'.heap.size) : R4 b t o td e W' :=
  ⟨⟨h.s.1.same (hb _ (by omega) (by omega)), Nat.lt_of_lt_of_le h.s.2 hs⟩, ⟨h.o.1.same (hb _ (by omega) (by omega)), Nat.lt_of_lt_of_le h.o.2 hs⟩, ⟨h.t.1.same (hb _ (by omega) (by omega)), Nat.lt_of_lt_of_le h.t.2 hs⟩, ⟨h.e.1.same (hb _ (by omega) (by omega)), Nat.lt_of_lt_of_le h.e.2 hs⟩⟩
theorem R4.keep {b : Nat} {t : List Value} {o e : Int} {td : Bool} {W W' : World} (h : R4 b t o td e W) (hb : Below W.heap.size W W') : R4 b t o td e W' := h.same (fun j hj _ => hb.block j (by have := h.e.2; omega)) hb.size
/-- The answers' blocks alone are turned. -/
structure Far (b : Nat) (W W' : World) : Prop where
  bl : Below (b + 1) W W'
  up : ∀ j, b + 5 ≤ j → W'.heap[j]? = W.heap[j]?
theorem Far.set {b : Nat} {W W' : World} (h : Far b W W') (k : Nat) (hk : b < k ∧ k < b + 5) (o : Nat) (u : Value) : Far b W (W'.setCell ⟨k, o, none⟩ u) :=
  ⟨h.bl.setCell (p := ⟨k, o, none⟩) (show b + 1 ≤ k by omega) u, fun j hj => (heap_setCell_other _ ⟨k, o, none⟩ j _ (show j ≠ k by omega)).trans (h.up j hj)⟩
theorem Far.x {b bx : Nat} {W W' : World} {c : Cp} {v : Value} {r : List Value} (h : Far b W W') (hX : XAt bx c v r W) (hb : b + 5 ≤ bx) : XAt bx c v r W' := hX.same (h.up bx hb) h.bl.size
/-- The four answers are set, one after the other. -/
theorem R4.put {b : Nat} {t0 : List Value} {o0 e0 : Int} {d0 : Bool} {W : World} (h : R4 b t0 o0 d0 e0 W) (t : List Value) (hl : t0.length = t.length) (hp : 0 < t.length) (o : Int) (td : Bool) (e : Int) :
    ∃ WA, W.setCells (b + 1) 0 t = WA ∧ W.there (b + 1) 0 t.length ∧ R4 b t o0 d0 e0 WA ∧ Far b W WA ∧ R4 b t o d0 e0 (WA.setCell ⟨b + 2, 0, none⟩ (.int .i64 o)) ∧ R4 b t o td e0 ((WA.setCell ⟨b + 2, 0, none⟩ (.int .i64 o)).setCell ⟨b + 3, 0, none⟩ (.bool td)) ∧ R4 b t o td e (((WA.setCell ⟨b + 2, 0, none⟩ (.int .i64 o)).setCell ⟨b + 3, 0, none⟩ (.bool td)).setCell ⟨b + 4, 0, none⟩ (.int .i64 e)) := by
  obtain ⟨WA, hWA, hth, hs, hk⟩ := put_any h.s (ds := t) hl hp
  have hfar : ∀ j, j ≠ b + 1 → WA.heap[j]? = W.heap[j]? := fun j hj => by rw [← hWA]; exact heap_setCells_other hj _ _ _
  have hsz := (hk 0 W (Nat.zero_le _) (Below.refl _ _)).size
  have hA : R4 b t o0 d0 e0 WA := ⟨hs, ⟨h.o.1.same (hfar _ (by omega)), Nat.lt_of_lt_of_le h.o.2 hsz⟩, ⟨h.t.1.same (hfar _ (by omega)), Nat.lt_of_lt_of_le h.t.2 hsz⟩, ⟨h.e.1.same (hfar _ (by omega)), Nat.lt_of_lt_of_le h.e.2 hsz⟩⟩
  have hF : Far b W WA := ⟨hk _ _ (Nat.le_refl _) (Below.refl _ _), fun j hj => hfar j (by omega)⟩
  have one : ∀ {g : Nat} {u : Value} {Z : World} (x : Value), BlkL g [u] Z → BlkL g [x] (Z.setCell ⟨g, 0, none⟩ x) := fun x hz => by
    have h1 := hz.1.set 0 x (by show 0 < 1; decide)
    exact ⟨h1, h1.lt rfl⟩
  have hB : R4 b t o d0 e0 (WA.setCell ⟨b + 2, 0, none⟩ (.int .i64 o)) := ⟨far_blk hA.s (by omega) _ _, one _ hA.o, far_blk hA.t (by omega) _ _, far_blk hA.e (by omega) _ _⟩
  have hC : R4 b t o td e0 ((WA.setCell ⟨b + 2, 0, none⟩ (.int .i64 o)).setCell ⟨b + 3, 0, none⟩ (.bool td)) := ⟨far_blk hB.s (by omega) _ _, far_blk hB.o (by omega) _ _, one _ hB.t, far_blk hB.e (by omega) _ _⟩
  exact ⟨WA, hWA, hth, hA, hF, hB, hC, ⟨far_blk hC.s (by omega) _ _, far_blk hC.o (by omega) _ _, far_blk hC.t (by omega) _ _, one _ hC.e⟩⟩
theorem far4 {b : Nat} {W WA : World} (h : Far b W WA) (o e : Int) (td : Bool) : Far b W (((WA.setCell ⟨b + 2, 0, none⟩ (.int .i64 o)).setCell ⟨b + 3, 0, none⟩ (.bool td)).setCell ⟨b + 4, 0, none⟩ (.int .i64 e)) := ((h.set (b + 2) (by omega) 0 _).set (b + 3) (by omega) 0 _).set (b + 4) (by omega) 0 _
theorem zst_one : ∀ u ∈ stCs zeroC nilS, u.oneCell' = true := st_one zeroC nilS rfl
theorem errorOf_any (e : Int) (w : World) : Calls Try.prog 33 #[.iface 112 (.int .i64 e)] w fun r w' => r = .returned (.int .i64 e) ∧ w' = w := by
  have hta : ∀ w : World, (Instr.typeAssert (.iface 112 (.int .i64 e)) 20 112 true).run Try.prog w = .ok (.tuple #[.int .i64 e, .bool true]) w := fun _ => by first | kernel_rfl | rfl
  go_enter Try.func33, Try.ntmps33
  go_wp2_with fail
  go_ret
  exact ⟨rfl, rfl⟩
theorem catch_idle (p0 p1 p2 p3 : Addr) (w : World) :
    CallsD Try.prog 32 #[.pointer (some p0), .pointer (some p1), .pointer (some p2), .pointer (some p3)] .returning w fun e u' w' => e = .returned (.tuple #[]) ∧ u' = .returning ∧ w' = w := by
  refine callsD_of_wpS Try.func32 rfl fun c₀ cs hu => ?_
  apply wpS_seq
  apply wpS_region
  simp [wpOpsS, go_sem, recoverD, hu, Try.ntmps32, Exit.thenS]
  refine wpS_of_wp ?_
  change Code.wp Try.prog _ _ { tmps := #[.pointer (some p0), .pointer (some p1), .pointer (some p2), .pointer (some p3), .nilIface, .nilIface, undef, undef, undef, undef, undef], defers := [] } w
  go_wp2_with fail
  cases c₀
  simp_all [bodyPostS, results, Try.results32]
set_option maxRecDepth 8000 in
set_option maxHeartbeats 2000000 in
theorem catch_panicking (b : Nat) (t0 : List Value) (ht0 : t0.length = 18) (o0 e0 : Int) (d0 : Bool) (er : Int) (w : World) (h : R4 b t0 o0 d0 e0 w) :
    CallsD Try.prog 32 #[.pointer (some ⟨b + 1, 0, none⟩), .pointer (some ⟨b + 2, 0, none⟩), .pointer (some ⟨b + 3, 0, none⟩), .pointer (some ⟨b + 4, 0, none⟩)] (.panicking (thr er)) w fun e u' w' => e = .returned (.tuple #[]) ∧ u' = .panicking [{ v := .iface 112 (.int .i64 er), recovered := true }] ∧ (R4 b (stCs zeroC nilS) 0 false er w' ∧ Far b w w') := by
  have hszS : (Try.prog.info? 33).map (·.size) = some (stCs zeroC nilS).length := by kernel_rfl
  have hnil : ∀ w : World, (binOp BinOp.neq 20 (.iface 112 (.int .i64 er)) .nilIface).run Try.prog w = .ok (.bool true) w := fun _ => rfl
  have k := errorOf_any er w
  obtain ⟨WA, hWA, hth, hA, hF, hB, hC, hD⟩ := h.put (stCs zeroC nilS) (by rw [ht0]; rfl) (by show 0 < 18; decide) 0 false er
  have hF4 := far4 hF 0 er false
  have a2 := (hA.o.1 0 _ rfl).1
  have f2 := (hA.o.1 0 _ rfl).2
  have a3 := (hA.t.1 0 _ rfl).1
  have f3 := (hA.t.1 0 _ rfl).2
  have a4 := (hA.e.1 0 _ rfl).1
  have f4 := (hA.e.1 0 _ rfl).2
  have hbd : ∀ w : World, (Instr.build 33 #[]).run Try.prog w = .ok (.agg (stCs zeroC nilS).toArray) w := fun w => by
    have h1 := Try.underlying33
    rw [zS_eq]
    go_simp
  obtain ⟨X, hX⟩ : ∃ X, stCs zeroC nilS = X := ⟨_, rfl⟩
  have hone := zst_one
  simp only [hX] at hWA hth hA hB hC hD hbd hszS hone
  rw [hX]
  clear hB hC hA hF hX
  refine callsD_of_wpS Try.func32 rfl fun c₀ cs hu => ?_
  apply wpS_seq
  apply wpS_region
  simp [wpOpsS, go_sem, recoverD, hu, thr, Try.ntmps32, Exit.thenS]
  refine wpS_of_wp ?_
  change Code.wp Try.prog _ _ { tmps := #[.pointer (some ⟨b + 1, 0, none⟩), .pointer (some ⟨b + 2, 0, none⟩), .pointer (some ⟨b + 3, 0, none⟩), .pointer (some ⟨b + 4, 0, none⟩), .iface 112 (.int .i64 er), .iface 112 (.int .i64 er), undef, undef, undef, undef, undef], defers := [] } w
  go_wp2_with (first | (refine wpList_buildv rfl _ rfl #[] (by simp) (hbd _) ?_) | fail)
  refine k.mono ?_
  rintro e W1 ⟨rfl, hw1⟩
  rw [hw1]
  go_wp2_with (first | (refine wpList_store_row rfl _ _ rfl (b + 1) rfl X rfl hth hszS hone hWA ?_) | fail)
  simp [bodyPostS, results, Try.results32]
  exact ⟨hD, hF4⟩
theorem cclone_any (a : Option Addr) (c : Nat) (l : List Fr) (hn : a = none → c = 0) (hl : l.length ≤ 1000) (w : World) (h : RowAt 3 frc w a l) :
    Calls Try.prog 34 #[.slice a l.length c] w fun e w' => ∃ v, e = .returned v ∧ OwnR 84 3 frc w' w.heap.size v l ∧ Below w.heap.size w w' := by
  cases a with
  | none =>
    have hl0 : l = [] := by
      cases l with
      | nil => rfl
      | cons x r => obtain ⟨y, hy, -⟩ := h 0 x rfl; cases hy
    subst hl0
    obtain rfl := hn rfl
    have hq : ∀ w : World, (binOp .eql 26 (.slice none 0 0) (.slice none 0 0)).run Try.prog w = .ok (.bool true) w := fun _ => rfl
    go_enter Try.func34, Try.ntmps34
    go_wp2_with fail
    go_ret
    exact ⟨_, rfl, OwnR.nil _ _ _ _ _, Below.refl _ _⟩
  | some y =>
    obtain ⟨v, W, hap, ho, hb⟩ := wasW_run fr_okC (n := l.length) (c := c) h rfl (fun q => (by cases q)) (by omega)
    generalize l.length = n at *
    have hq : ∀ w : World, (binOp .eql 26 (.slice (some y) n c) (.slice none 0 0)).run Try.prog w = .ok (.bool false) w := fun _ => rfl
    go_enter Try.func34, Try.ntmps34
    go_wp2_with (first | (refine wpList_append rfl _ _ rfl rfl rfl rfl hap ?_) | (refine wpList_build0W fr_okC rfl rfl ?_) | fail)
    go_ret
    exact ⟨v, rfl, ho, hb⟩
end Go.Proofs.Ytinibccphecdfaa

/-! PACKAGE cpu AS IT LANDED: Step, whole. Written by mk_cpufnp.py. -/
namespace Go.Proofs.Ytinibccphecdfaa
open Go.RowKit
set_option maxRecDepth 8000
set_option linter.unusedSimpArgs false
set_option linter.unusedVariables false

theorem cl_eq {c : Cp} {m : List Sg} {i : Ins} (hg : (mSeg c m i).Ok) : clE c m i = clG (mSeg c m i) (memP c i) c.st.length := by
  unfold clE clG
  by_cases h1 : (mSeg c m i).is = false
  · rw [if_pos h1, if_pos h1]
  rw [if_neg h1, if_neg h1]
  by_cases h2 : hasM (mSeg c m i).md 4 = false
  · rw [if_pos h2, if_pos h2]
  rw [if_neg h2, if_neg h2]
  by_cases h3 : callE (mSeg c m i).rg (mOff c i) (mRing c i) ≠ 0
  · rw [if_pos h3, if_pos (show callE (mSeg c m i).rg (memP c i).f (memP c i).r ≠ 0 from h3)]
  rw [if_neg h3, if_neg (show ¬ callE (mSeg c m i).rg (memP c i).f (memP c i).r ≠ 0 from h3)]
  have h0 := (call_ok (hg.rg (by simpa using h1)) (by simpa using h3)).2.2.1
  by_cases h4 : ¬ mOff c i < ((mSeg c m i).ws.length : Int)
  · rw [if_pos h4, if_pos (show ¬ inG (mSeg c m i) (memP c i).f from fun q => h4 q.2)]
  · rw [if_neg h4, if_neg (show ¬ ¬ inG (mSeg c m i) (memP c i).f from fun q => q ⟨h0, by show mOff c i < _; omega⟩)]
theorem op_eq {c : Cp} {m : List Sg} {i : Ins} (hg : (mSeg c m i).Ok) (hi : insE i = 0) : opC c m i = opD { c with off := c.off + 1 } m i := by
  have hcl := cl_eq (c := c) (m := m) (i := i) hg
  obtain ⟨k, p, nn⟩ := i
  obtain ⟨⟨o0, o1⟩, -⟩ := insE_zero.1 hi
  obtain ⟨j, hj, hj2⟩ : ∃ j : Nat, k = (j : Int) ∧ j < 23 := by
    replace o0 : 0 ≤ k := o0
    replace o1 : k ≤ 22 := o1
    exact ⟨k.toNat, by omega, by omega⟩
  subst hj
  match j, hj2 with
  | 0, _ => rfl
  | 1, _ => rfl
  | 2, _ => rfl
  | 3, _ => rfl
  | 4, _ => rfl
  | 5, _ => rfl
  | 6, _ => rfl
  | 7, _ => rfl
  | 8, _ => rfl
  | 9, _ => rfl
  | 10, _ => rfl
  | 11, _ => rfl
  | 12, _ => rfl
  | 13, _ => rfl
  | 14, _ => rfl
  | 15, _ =>
    show (if ((15 : Nat) : Int) = 14 ∨ ((15 : Nat) : Int) = 15 ∧ c.a = 0 ∨ ((15 : Nat) : Int) = 16 ∧ c.a < 0 then okC { c with off := nn } else okC { c with off := c.off + 1 }) = okC (if ((15 : Nat) : Int) = 14 ∨ ((15 : Nat) : Int) = 15 ∧ c.a = 0 ∨ ((15 : Nat) : Int) = 16 ∧ c.a < 0 then { c with off := nn } else { c with off := c.off + 1 })
    split <;> rfl
  | 16, _ =>
    show (if ((16 : Nat) : Int) = 14 ∨ ((16 : Nat) : Int) = 15 ∧ c.a = 0 ∨ ((16 : Nat) : Int) = 16 ∧ c.a < 0 then okC { c with off := nn } else okC { c with off := c.off + 1 }) = okC (if ((16 : Nat) : Int) = 14 ∨ ((16 : Nat) : Int) = 15 ∧ c.a = 0 ∨ ((16 : Nat) : Int) = 16 ∧ c.a < 0 then { c with off := nn } else { c with off := c.off + 1 })
    split <;> rfl
  | 17, _ => rfl
  | 18, _ => rfl
  | 19, _ => rfl
  | 20, _ =>
    show (if clE c m ⟨((20 : Nat) : Int), p, nn⟩ ≠ 0 then flt (clE c m ⟨((20 : Nat) : Int), p, nn⟩) else okC (clT c m ⟨((20 : Nat) : Int), p, nn⟩)) = _
    rw [hcl]
    rfl
  | 21, _ => rfl
  | 22, _ => rfl
theorem x_build (c : Cp) (h4 : c.ps.length = 4) (va : Option Addr) (vn vc bm : Nat) (w : World) : (Instr.build 91 #[(0, .agg (stCs c (.slice va vn vc)).toArray), (1, memI bm)]).run Try.prog w = .ok (.agg (stCs c (.slice va vn vc) ++ rest3 bm 0 false).toArray) w := by
  obtain ⟨p0, p1, p2, p3, hps⟩ := four h4
  have h1 := Try.underlying91
  have h2 := Try.underlying33
  unfold stCs
  rw [hps]
  go_simp
/-- Where a step begins. -/
theorem start4 (w : World) (cs : List Value) (T1 T2 T3 T4 T5 : TypeId) : BlkL w.heap.size cs (((((w.alloc (.cells cs.toArray T1)).alloc (.cells zS T2)).alloc (.cells #[.int .i64 0] T3)).alloc (.cells #[.bool false] T4)).alloc (.cells #[.int .i64 0] T5)) ∧ R4 w.heap.size (stCs zeroC nilS) 0 false 0 (((((w.alloc (.cells cs.toArray T1)).alloc (.cells zS T2)).alloc (.cells #[.int .i64 0] T3)).alloc (.cells #[.bool false] T4)).alloc (.cells #[.int .i64 0] T5)) ∧ Below w.heap.size w (((((w.alloc (.cells cs.toArray T1)).alloc (.cells zS T2)).alloc (.cells #[.int .i64 0] T3)).alloc (.cells #[.bool false] T4)).alloc (.cells #[.int .i64 0] T5)) ∧ (((((w.alloc (.cells cs.toArray T1)).alloc (.cells zS T2)).alloc (.cells #[.int .i64 0] T3)).alloc (.cells #[.bool false] T4)).alloc (.cells #[.int .i64 0] T5)).heap.size = w.heap.size + 5 := by
  have b1 := alloc_below w (.cells cs.toArray T1)
  have m1 := blkl_alloc w cs.toArray T1
  have s1 := World.size_alloc w (.cells cs.toArray T1)
  generalize w.alloc (.cells cs.toArray T1) = W1 at *
  have b2 := alloc_below W1 (.cells zS T2)
  have m2 := blkl_alloc W1 zS T2
  have s2 := World.size_alloc W1 (.cells zS T2)
  generalize W1.alloc (.cells zS T2) = W2 at *
  have b3 := alloc_below W2 (.cells #[.int .i64 0] T3)
  have m3 := blkl_alloc W2 #[.int .i64 0] T3
  have s3 := World.size_alloc W2 (.cells #[.int .i64 0] T3)
  generalize W2.alloc (.cells #[.int .i64 0] T3) = W3 at *
  have b4 := alloc_below W3 (.cells #[.bool false] T4)
  have m4 := blkl_alloc W3 #[.bool false] T4
  have s4 := World.size_alloc W3 (.cells #[.bool false] T4)
  generalize W3.alloc (.cells #[.bool false] T4) = W4 at *
  have b5 := alloc_below W4 (.cells #[.int .i64 0] T5)
  have m5 := blkl_alloc W4 #[.int .i64 0] T5
  have s5 := World.size_alloc W4 (.cells #[.int .i64 0] T5)
  generalize W4.alloc (.cells #[.int .i64 0] T5) = W5 at *
  have e2 : W1.heap.size = w.heap.size + 1 := by omega
  have e3 : W2.heap.size = w.heap.size + 2 := by omega
  have e4 : W3.heap.size = w.heap.size + 3 := by omega
  have e5 : W4.heap.size = w.heap.size + 4 := by omega
  have k1 := stab_blk _ _ _ _ (stab_blk _ _ _ _ (stab_blk _ _ _ _ (stab_blk _ _ _ _ m1 b2) b3) b4) b5
  have k2 := stab_blk _ _ _ _ (stab_blk _ _ _ _ (stab_blk _ _ _ _ m2 b3) b4) b5
  have k3 := stab_blk _ _ _ _ (stab_blk _ _ _ _ m3 b4) b5
  have k4 := stab_blk _ _ _ _ m4 b5
  rw [e2] at k2
  rw [e3] at k3
  rw [e4] at k4
  rw [e5] at m5
  exact ⟨k1, ⟨k2, k3, k4, m5⟩, Below.then (Below.then (Below.then (Below.then b1 b2) b3) b4) b5, by omega⟩
theorem results_r4 {fn : Func} (h : fn.results = #[.cell 4 33, .cell 5 2, .cell 6 4, .cell 7 48]) (tmps : Array Value) (w : World) (b : Nat) (h4 : tmps.getD 4 undef = .pointer (some ⟨b + 1, 0, none⟩)) (h5 : tmps.getD 5 undef = .pointer (some ⟨b + 2, 0, none⟩)) (h6 : tmps.getD 6 undef = .pointer (some ⟨b + 3, 0, none⟩)) (h7 : tmps.getD 7 undef = .pointer (some ⟨b + 4, 0, none⟩))
    (t : List Value) (ht : t.length = 18) (o e : Int) (td : Bool) (hr : R4 b t o td e w) : (results fn tmps).run Try.prog w = .ok (.tuple #[.agg t.toArray, .int .i64 o, .bool td, .int .i64 e]) w := by
  have g4 : tmps[4]?.getD undef = .pointer (some ⟨b + 1, 0, none⟩) := by simpa using h4
  have g5 : tmps[5]?.getD undef = .pointer (some ⟨b + 2, 0, none⟩) := by simpa using h5
  have g6 : tmps[6]?.getD undef = .pointer (some ⟨b + 3, 0, none⟩) := by simpa using h6
  have g7 : tmps[7]?.getD undef = .pointer (some ⟨b + 4, 0, none⟩) := by simpa using h7
  have hszS : (Try.prog.info? 33).map (·.size) = some t.length := by rw [ht]; kernel_rfl
  have e4 := run_loadVar_mid (P := Try.prog) w (b + 1) 0 33 t _ hr.s.range Try.underlying33 rfl hszS
  have a5 := (hr.o.1 0 _ rfl).1
  have a6 := (hr.t.1 0 _ rfl).1
  have a7 := (hr.e.1 0 _ rfl).1
  have e5 : (loadVar 2 ⟨b + 2, 0, none⟩).run Try.prog w = .ok (.int .i64 o) w := by simp [go_sem, a5]
  have e6 : (loadVar 4 ⟨b + 3, 0, none⟩).run Try.prog w = .ok (.bool td) w := by simp [go_sem, a6]
  have e7 : (loadVar 48 ⟨b + 4, 0, none⟩).run Try.prog w = .ok (.int .i64 e) w := by simp [go_sem, a7]
  simp [results, h, g4, g5, g6, g7, asAddr, e4, e5, e6, e7]
/-- What a step comes to. -/
def StP (bm : Nat) (sl : Value) (n : Int) (O : Ot) (w : World) (e : Ending) (w' : World) : Prop :=
  ∃ v', e = .returned (.tuple #[.agg (stCs O.t v').toArray, .int .i64 O.v, .bool O.told, .int .i64 O.e]) ∧ OwnR 84 3 frc w' w.heap.size v' O.t.st ∧ Wr bm w.heap.size sl n w O.wr w'
theorem Wr.after {bm L : Nat} {sl : Value} {n : Int} {w W4 W5 W6 : World} {r : Option (Int × Int × Int)} (h : Wr bm L sl n W4 r W5) (hb : Below w.heap.size w W4) (hL : w.heap.size ≤ L) (hf : Far w.heap.size W5 W6) (hm : bm < w.heap.size) : Wr bm w.heap.size sl n w r W6 := by
  cases r with
  | none => exact (hb.trans (Below.mono (show Below L W4 W5 from h) hL)).trans (hf.bl.mono (Nat.le_succ _))
  | some p =>
    obtain ⟨h1, h2⟩ : BlkL bm (memCs sl true p.1 p.2.1 p.2.2 (n + 1)) W5 ∧ Sole bm W4 W5 := h
    exact ⟨⟨h1.1.same (hf.bl.block bm (by omega)), Nat.lt_of_lt_of_le h1.2 hf.bl.size⟩, ⟨hf.bl.os.trans (h2.os.trans hb.os), hf.bl.tape.trans (h2.tape.trans hb.tape), hf.bl.output.trans (h2.output.trans hb.output), Nat.le_trans hb.size (Nat.le_trans h2.size hf.bl.size), fun j hj hn => (hf.bl.block j (by omega)).trans ((h2.block j (Nat.lt_of_lt_of_le hj hb.size) hn).trans (hb.block j hj))⟩⟩
abbrev zX : Array Value := #[.int .i64 0, .int .i64 0, .int .i64 0, .int .i64 0, .int .i64 0, .int .i64 0, .int .i64 0, .int .i64 0, .int .i64 0, .int .i64 0, .int .i64 0, .int .i64 0, .int .i64 0, .int .i64 0, .int .i64 0, .int .i64 0, .slice none 0 0, .bool false, .nilIface, .int .i64 0, .bool false]
theorem Wr.drew {bm L : Nat} {sl : Value} {n : Int} {w W : World} {r : Option (Int × Int × Int)} (h : Wr bm L sl n w r W) : Wr bm L sl n w r W.drew := by
  cases r with
  | none => exact Below.drew (show Below L w W from h)
  | some p =>
    obtain ⟨h1, h2⟩ : BlkL bm (memCs sl true p.1 p.2.1 p.2.2 (n + 1)) W ∧ Sole bm w W := h
    have hd := (Below.refl W.heap.size W).drew
    exact ⟨stab_blk _ _ _ _ h1 hd, h2.trans (Sole.of hd)⟩
theorem Wr.size {bm L : Nat} {sl : Value} {n : Int} {w W : World} {r : Option (Int × Int × Int)} (h : Wr bm L sl n w r W) : w.heap.size ≤ W.heap.size := by
  cases r with
  | none => exact (show Below L w W from h).size
  | some p => exact (show BlkL bm (memCs sl true p.1 p.2.1 p.2.2 (n + 1)) W ∧ Sole bm w W from h).2.size
theorem Wr.block {bm L : Nat} {sl : Value} {n : Int} {w W : World} {r : Option (Int × Int × Int)} (h : Wr bm L sl n w r W) (j : Nat) (hj : j < L) (hs : j < w.heap.size) (hn : j ≠ bm) : W.heap[j]? = w.heap[j]? := by
  cases r with
  | none => exact (show Below L w W from h).block j hj
  | some p => exact (show BlkL bm (memCs sl true p.1 p.2.1 p.2.2 (n + 1)) W ∧ Sole bm w W from h).2.block j hs hn
theorem opD_flt {d : Cp} {m : List Sg} {i : Ins} (h : (opD d m i).e ≠ 0) : opD d m i = flt (opD d m i).e := by
  unfold opD at h ⊢
  by_cases c0 : i.o = 0
  · rw [if_pos c0] at h ⊢
    exact absurd rfl h
  rw [if_neg c0] at h ⊢
  by_cases c1 : i.o = 1 ∨ 4 ≤ i.o ∧ i.o ≤ 11
  · rw [if_pos c1] at h ⊢
    by_cases e : rdE d m i ≠ 0
    · rw [if_pos e]; rfl
    · rw [if_neg e] at h; exact absurd rfl h
  rw [if_neg c1] at h ⊢
  by_cases c2 : i.o = 2
  · rw [if_pos c2] at h ⊢
    by_cases e : wrE d m i ≠ 0
    · rw [if_pos e]; rfl
    · rw [if_neg e] at h; exact absurd rfl h
  rw [if_neg c2] at h ⊢
  by_cases c3 : i.o = 3
  · rw [if_pos c3] at h ⊢
    exact absurd rfl h
  rw [if_neg c3] at h ⊢
  by_cases c4 : i.o = 12
  · rw [if_pos c4] at h ⊢
    exact absurd rfl h
  rw [if_neg c4] at h ⊢
  by_cases c5 : i.o = 13
  · rw [if_pos c5] at h ⊢
    by_cases e : toE d.a ≠ 0
    · rw [if_pos e]; rfl
    · rw [if_neg e] at h; exact absurd rfl h
  rw [if_neg c5] at h ⊢
  by_cases c6 : 14 ≤ i.o ∧ i.o ≤ 16
  · rw [if_pos c6] at h ⊢
    exact absurd rfl h
  rw [if_neg c6] at h ⊢
  by_cases c7 : i.o = 17
  · rw [if_pos c7] at h ⊢
    exact absurd rfl h
  rw [if_neg c7] at h ⊢
  by_cases c8 : i.o = 18
  · rw [if_pos c8] at h ⊢
    by_cases e : rdE d m i ≠ 0
    · rw [if_pos e]; rfl
    · rw [if_neg e] at h; exact absurd rfl h
  rw [if_neg c8] at h ⊢
  by_cases c9 : i.o = 19
  · rw [if_pos c9] at h ⊢
    exact absurd rfl h
  rw [if_neg c9] at h ⊢
  by_cases c10 : i.o = 20
  · rw [if_pos c10] at h ⊢
    by_cases e : clG (mSeg d m i) (memP d i) d.st.length ≠ 0
    · rw [if_pos e]; rfl
    · rw [if_neg e] at h; exact absurd rfl h
  rw [if_neg c10] at h ⊢
  by_cases c11 : i.o = 21
  · rw [if_pos c11] at h ⊢
    by_cases e : rtE d ≠ 0
    · rw [if_pos e]; rfl
    · rw [if_neg e] at h; exact absurd rfl h
  rw [if_neg c11] at h ⊢
  by_cases c12 : i.o = 22
  · rw [if_pos c12] at h ⊢
    exact absurd rfl h
  rw [if_neg c12] at h ⊢
  exact absurd rfl h
theorem errno_store (w : World) (y : Addr) (u : Value) (x : Int) (hc : w.cell? y = some u) (hf : w.frozen? y = false) : (Instr.storeAt 48 (.pointer (some y)) (.int .i64 x)).run Try.prog w = .ok () (w.setCell y (.int .i64 x)) := by
  have h1 := Try.underlying48
  go_simp
theorem bool_load (w : World) (y : Addr) (v : Value) (h : w.cell? y = some v) : (Instr.loadAt 4 (.pointer (some y))).run Try.prog w = .ok v w := by
  have h1 := Try.underlying4
  go_simp
/-- Where a fault leads. -/
theorem StP.fault {bm : Nat} {sl : Value} {n : Int} {w w' : World} (E : Int) (hb : Below w.heap.size w w') : StP bm sl n (flt E) w (.returned (.tuple #[.agg (stCs zeroC nilS).toArray, .int .i64 0, .bool false, .int .i64 E])) w' := ⟨nilS, rfl, OwnR.nil _ _ _ _ _, hb⟩
theorem leaves_tmps {P : Program} {fn : Func} {t1 t2 : Array Value} {R : Ending → World → Prop} (h : results fn t1 = results fn t2) : ∀ (ds : List Deferred) (u : FrameMode) (w : World), Leaves P fn t1 R ds u w → Leaves P fn t2 R ds u w
  | [], .returning, w, k => by
    obtain ⟨v, h1, h2⟩ := k
    exact ⟨v, by rw [← h]; exact h1, h2⟩
  | [], .panicking chain, w, k => k
  | [], .run, _, k => k
  | d :: ds, u, w, k => by
    obtain ⟨h1, fv, cap, f, args, h2, h3, h5⟩ := k
    refine ⟨h1, fv, cap, f, args, h2, h3, CallsD.mono h5 ?_⟩
    intro e u' w' q
    cases e with
    | returned v => exact leaves_tmps h ds _ _ q
    | panicked chain => exact leaves_tmps h ds _ _ q
    | outgrown => exact q
/-- What a step answers lies in cells that no operation of its last region turns. -/
theorem step_hQ {R : Ending → World → Prop} {k : Nat} {v : Value} (hk : 8 ≤ k) (c : List PanicEntry) (a : Act) (w : World) (h : bodyPostD Try.prog Try.f17 R (.panic c) (a.put (some k) v) w) : bodyPostD Try.prog Try.f17 R (.panic c) a w := by
  refine leaves_tmps ?_ _ _ _ (show Leaves Try.prog Try.f17 (a.put (some k) v).tmps R a.defers (.panicking c) w from h)
  have e : ∀ j, j < 8 → (a.tmps.setIfInBounds k v)[j]? = a.tmps[j]? := fun j hj => by
    rw [Array.getElem?_setIfInBounds]
    rw [if_neg (by omega)]
  have hr : Try.f17.results = #[.cell 4 33, .cell 5 2, .cell 6 4, .cell 7 48] := rfl
  simp [results, hr, Act.put, e 4 (by omega), e 5 (by omega), e 6 (by omega), e 7 (by omega)]
end Go.Proofs.Ytinibccphecdfaa

/-! PACKAGE cpu AS IT LANDED: Step, whole. Written by mk_cpufnp.py. -/
namespace Go.Proofs.Ytinibccphecdfaa
open Go.RowKit
set_option maxRecDepth 8000
set_option linter.unusedSimpArgs false
set_option linter.unusedVariables false

set_option maxRecDepth 8000 in
set_option maxHeartbeats 8000000 in
theorem cstep_any (c : Cp) (hc : c.Ok) (a1 : Option Addr) (c1 : Nat) (hn1 : a1 = none → c1 = 0) (bm : Nat) (a : Option Addr) (cap : Nat) (m : List PG) (hm : MG m) (is : Bool) (s o y n : Int) (hn : 0 ≤ n ∧ n < 1000000) (w : World) (hr1 : RowAt 3 frc w a1 c.st) (hN : BlkL bm (memCs (.slice a m.length cap) is s o y n) w) (hR : RowG w a m) :
    Calls Try.prog 17 #[.agg (stCs c (.slice a1 c.st.length c1)).toArray, memI bm] w (StP bm (.slice a m.length cap) n (stepC c (m.map (·.g))) w) := by
  have hmf : ∀ (fn : Fn) (first cap : Array Value) (w : World), (Instr.makeFunc fn first cap).run Try.prog w = .ok (.func fn first cap) w := fun _ _ _ _ => rfl
  have hundS := Try.underlying33
  have hszS : (Try.prog.info? 33).map (·.size) = some 18 := by kernel_rfl
  have h4 := hc.ps
  obtain ⟨k1, hr4, hB0, hsz0⟩ := start4 w (stCs c (.slice a1 c.st.length c1)) 33 33 2 4 48
  have hs0 : StAt w.heap.size c (.slice a1 c.st.length c1) (((((w.alloc (.cells (stCs c (.slice a1 c.st.length c1)).toArray 33)).alloc (.cells zS 33)).alloc (.cells #[.int .i64 0] 2)).alloc (.cells #[.bool false] 4)).alloc (.cells #[.int .i64 0] 48)) := ⟨h4, k1⟩
  have x16 := hs0.stk
  have hrow0 := hr1.below frc_len hB0
  have hbm := hN.2
  have hlen := hc.st
  have kcl := cclone_any a1 c1 c.st hn1 (by omega) (((((w.alloc (.cells (stCs c (.slice a1 c.st.length c1)).toArray 33)).alloc (.cells zS 33)).alloc (.cells #[.int .i64 0] 2)).alloc (.cells #[.bool false] 4)).alloc (.cells #[.int .i64 0] 48)) hrow0
  have hN0 := stab_blk _ _ _ _ hN hB0
  have hR0 := hR.below hB0
  clear k1 hr1 hN hrow0
  obtain ⟨X, hX⟩ : ∃ X, stCs c (.slice a1 c.st.length c1) = X := ⟨_, rfl⟩
  simp only [hX] at hs0 hr4 hB0 hsz0 x16 kcl hN0 hR0
  rw [hX]
  clear hX
  go_enter_defers Try.func17, Try.ntmps17
  go_upto_region 2 with fail
  generalize (((((w.alloc (.cells X.toArray 33)).alloc (.cells zS 33)).alloc (.cells #[.int .i64 0] 2)).alloc (.cells #[.bool false] 4)).alloc (.cells #[.int .i64 0] 48)) = W0 at *
  have x16f := (hs0.blk.1 16 _ (st_stk h4)).2
  go_wp2_with fail
  refine kcl.mono ?_
  rintro e W1 ⟨v, rfl, ho, hb⟩
  obtain ⟨va, vc, hv, -, -, -⟩ := ho.slice frc_len
  subst hv
  have hs1 := hs0.keep hb
  have hr41 := hr4.keep hb
  have hB1 := Below.then hB0 hb
  have hN1 := stab_blk _ _ _ _ hN0 hb
  have hR1 := hR0.below hb
  have y16 := hs1.stk
  have y16f := (hs1.blk.1 16 _ (st_stk h4)).2
  have hs2 := hs1.setStk (.slice va c.st.length vc)
  have hr42 : R4 w.heap.size (stCs zeroC nilS) 0 false 0 (W1.setCell ⟨w.heap.size, 16, none⟩ (.slice va c.st.length vc)) := hr41.same (fun j _ hj => heap_setCell_other _ ⟨w.heap.size, 16, none⟩ j _ (by show j ≠ w.heap.size; omega)) (by simp)
  have hB2 := hB1.setCell (p := ⟨w.heap.size, 16, none⟩) (Nat.le_refl _) (.slice va c.st.length vc)
  have hN2 := far_blk hN1 (show w.heap.size ≠ bm by omega) 16 (.slice va c.st.length vc)
  have hO2 : OwnR 84 3 frc (W1.setCell ⟨w.heap.size, 16, none⟩ (.slice va c.st.length vc)) (w.heap.size + 5) (.slice va c.st.length vc) c.st := by
    rw [hsz0] at ho
    exact ho.keep fun k hk => heap_setCell_other _ ⟨w.heap.size, 16, none⟩ k _ (by have := (ho.lt hk).1; show k ≠ w.heap.size; omega)
  have hR2 : RowG (W1.setCell ⟨w.heap.size, 16, none⟩ (.slice va c.st.length vc)) a m := hR.below hB2
  have hsz1 : w.heap.size + 5 ≤ (W1.setCell ⟨w.heap.size, 16, none⟩ (.slice va c.st.length vc)).heap.size := by have := hb.size; simp; omega
  clear hs1 hr41 hB1 hN1 hR1 ho hb kcl hs0 hr4 hB0 hN0 hR0 x16 x16f hsz0
  go_upto_region 3 with fail
  generalize W1.setCell ⟨w.heap.size, 16, none⟩ (.slice va c.st.length vc) = W2 at *
  clear y16 y16f
  have y17 := hs2.hl
  have hrs := hs2.blk.range
  have hlS : (stCs c (.slice va c.st.length vc)).length = 18 := st_len h4
  have hone := st_one c (.slice va c.st.length vc) rfl
  have hbd := x_build c h4 va c.st.length vc bm
  cases hhl : c.hl with
  | true =>
    have hst : stepC c (m.map (·.g)) = okC c := by unfold stepC; rw [if_pos hhl]
    rw [hhl] at y17
    obtain ⟨WA, hWA, hth, hA, hF, -, -, hD⟩ := hr42.put (stCs c (.slice va c.st.length vc)) (by rw [hlS]; rfl) (by rw [hlS]; decide) 0 false 0
    have hF4 := far4 hF 0 0 false
    have a2 := (hA.o.1 0 _ rfl).1
    have f2 := (hA.o.1 0 _ rfl).2
    have a3 := (hA.t.1 0 _ rfl).1
    have f3 := (hA.t.1 0 _ rfl).2
    have a4 := (hA.e.1 0 _ rfl).1
    have f4 := (hA.e.1 0 _ rfl).2
    have hO4 : OwnR 84 3 frc (((WA.setCell ⟨w.heap.size + 2, 0, none⟩ (.int .i64 0)).setCell ⟨w.heap.size + 3, 0, none⟩ (.bool false)).setCell ⟨w.heap.size + 4, 0, none⟩ (.int .i64 0)) w.heap.size (.slice va c.st.length vc) c.st := (hO2.keep fun k hk => hF4.up k (by have := (hO2.lt hk).1; omega)).lower (by omega)
    have hB4 := hB2.trans (hF4.bl.mono (Nat.le_succ _))
    replace hst : Aside (stepC c (m.map (·.g)) = okC c) := hst
    obtain ⟨Y, hY⟩ : ∃ Y, stCs c (.slice va c.st.length vc) = Y := ⟨_, rfl⟩
    rw [hY] at hWA hth hD hrs hone hlS
    have hszY : (Try.prog.info? 33).map (·.size) = some Y.length := by rw [hlS]; exact hszS
    replace hY : Aside (stCs c (.slice va c.st.length vc) = Y) := hY
    clear hF hF4 hA hs2 hr42 hB2 hN2 hO2 hR2 hbd hhl
    go_wp2_with (first | (refine wpList_load_row rfl _ rfl w.heap.size rfl Y hrs hundS rfl hszY ?_) | (refine wpList_store_row rfl _ _ rfl (w.heap.size + 1) rfl Y rfl hth hszY hone hWA ?_) | fail)
    refine leaves_cons (f := 32) (args := #[.pointer (some ⟨w.heap.size + 1, 0, none⟩), .pointer (some ⟨w.heap.size + 2, 0, none⟩), .pointer (some ⟨w.heap.size + 3, 0, none⟩), .pointer (some ⟨w.heap.size + 4, 0, none⟩)]) (by simp) (by simp [go_sem]) ?_
    refine (catch_idle _ _ _ _ _).mono ?_
    rintro e u' w'' ⟨rfl, rfl, rfl⟩
    refine ⟨_, results_r4 rfl _ _ w.heap.size rfl rfl rfl rfl Y hlS 0 0 false hD, ?_⟩
    rw [hst.out]
    exact ⟨.slice va c.st.length vc, by rw [← hY.out]; rfl, hO4, hB4⟩
  | false =>
  rw [hhl] at y17
  have hszX : (Try.prog.info? 91).map (·.size) = some 21 := by kernel_rfl
  have hlX : (stCs c (.slice va c.st.length vc) ++ rest3 bm 0 false).length = 21 := by rw [List.length_append, hlS]; rfl
  have honeX : ∀ u ∈ stCs c (.slice va c.st.length vc) ++ rest3 bm 0 false, u.oneCell' = true := fun u hu => by
    rcases List.mem_append.1 hu with hu | hu
    · exact hone u hu
    · simp at hu
      rcases hu with rfl | rfl | rfl <;> rfl
  obtain ⟨W3, hW3, hth3, hx3, hb3⟩ := put_new W2 zX 91 (stCs c (.slice va c.st.length vc) ++ rest3 bm 0 false) (by rw [hlX]; rfl) (by rw [hlX]; decide)
  have hx3' : XAt W2.heap.size c (.slice va c.st.length vc) (rest3 bm 0 false) W3 := ⟨h4, hx3⟩
  have h3 : XO W2.heap.size bm (w.heap.size + 5) a cap m is s o y n c (.slice va c.st.length vc) W3 := ⟨hm, hc, hx3', hO2.below hb3, stab_blk _ _ _ _ hN2 hb3, hR2.below hb3, hn, hsz1, by omega, fun q => by have := (hO2.lt q).2; omega⟩
  have hr43 := hr42.keep hb3
  have hB3 := Below.then hB2 hb3
  have hst : stepC c (m.map (·.g)) = if fetE c (m.map (·.g)) ≠ 0 then flt (fetE c (m.map (·.g))) else opC c (m.map (·.g)) (fetI c (m.map (·.g))) := by unfold stepC; rw [if_neg (by rw [hhl]; decide)]
  have hgs : ∀ g ∈ m.map (·.g), g.Ok := fun g hg => by obtain ⟨x, hx, rfl⟩ := List.mem_map.1 hg; exact hm.ok x hx
  have kfe := cfetch_any bm W2.heap.size a cap m hm c (.slice va c.st.length vc) [.int .i64 0, .bool false] (kn (m.map (·.g)) c.seg) rfl (fetE c (m.map (·.g))) rfl W3 h3.at h3.x
  obtain ⟨SC, hSC⟩ : ∃ SC, stepC c (m.map (·.g)) = SC := ⟨_, rfl⟩
  rw [hSC] at hst
  replace hSC : Aside (stepC c (m.map (·.g)) = SC) := hSC
  replace hst : Aside (SC = if fetE c (m.map (·.g)) ≠ 0 then flt (fetE c (m.map (·.g))) else opC c (m.map (·.g)) (fetI c (m.map (·.g)))) := hst
  have hXX : Aside (∀ W b, XAt b c (.slice va c.st.length vc) (rest3 bm 0 false) W → BlkL b (stCs c (.slice va c.st.length vc) ++ rest3 bm 0 false) W) := fun W b h => h.blk
  obtain ⟨Y, hY⟩ : ∃ Y, stCs c (.slice va c.st.length vc) = Y := ⟨_, rfl⟩
  obtain ⟨YX, hYX⟩ : ∃ YX, stCs c (.slice va c.st.length vc) ++ rest3 bm 0 false = YX := ⟨_, rfl⟩
  simp only [hYX] at hW3 hth3 hlX honeX hbd
  simp only [hY] at hrs hlS hbd
  have hszY : (Try.prog.info? 33).map (·.size) = some Y.length := by rw [hlS]; exact hszS
  have hszYX : (Try.prog.info? 91).map (·.size) = some YX.length := by rw [hlX]; exact hszX
  have hbxl := h3.lx
  clear hXX hY hYX hx3 hx3' hb3 hs2 hr42 hB2 hN2 hO2 hR2 hhl hlX hone hsz1 hszX
  go_upto_region 6 with (first | (refine wpList_load_row rfl _ rfl w.heap.size rfl Y hrs hundS rfl hszY ?_) | (refine wpList_buildv rfl _ rfl #[(0, .agg Y.toArray), (1, memI bm)] (by simp [Act.eval]) (hbd _) ?_) | (refine wpList_store_row rfl _ _ rfl W2.heap.size rfl YX rfl hth3 hszYX honeX hW3 ?_) | fail)
  clear hW3 hth3 hszYX honeX hbd hrs hlS hszY y17
  generalize W2.heap.size = bx at *
  have hbmx : bm < w.heap.size + 5 := h3.bl
  go_wp2_with fail
  refine kfe.mono ?_
  rintro e W4 (⟨hE, rfl, hb⟩ | ⟨hE, rfl, hX4, hS4⟩)
  · have hst2 : Aside (SC = flt (fetE c (m.map (·.g)))) := by
      show _ = _
      rw [hst.out, if_pos hE]
    have hr44 := hr43.keep hb
    have hB4 := Below.then hB3 hb
    clear hst kfe h3 hr43 hB3
    go_wp2_with fail
    refine leaves_cons (f := 32) (args := #[.pointer (some ⟨w.heap.size + 1, 0, none⟩), .pointer (some ⟨w.heap.size + 2, 0, none⟩), .pointer (some ⟨w.heap.size + 3, 0, none⟩), .pointer (some ⟨w.heap.size + 4, 0, none⟩)]) (by simp) (by simp [go_sem]) ?_
    refine (catch_panicking w.heap.size (stCs zeroC nilS) rfl 0 0 false (fetE c (m.map (·.g))) W4 hr44).mono ?_
    rintro e u' w'' ⟨rfl, rfl, hr9, hF⟩
    refine ⟨_, results_r4 rfl _ _ w.heap.size rfl rfl rfl rfl (stCs zeroC nilS) rfl 0 (fetE c (m.map (·.g))) false hr9, ?_⟩
    rw [hSC.out, hst2.out]
    exact StP.fault _ (hB4.trans (hF.bl.mono (Nat.le_succ _)))
  have hi := fet_ok hgs hE
  have hst2 : Aside (SC = opD { c with off := c.off + 1 } (m.map (·.g)) (fetI c (m.map (·.g)))) := by
    show _ = _
    rw [hst.out, if_neg (by simpa using hE), op_eq (kn_ok hgs _) hi]
  have h4' : XO bx bm (w.heap.size + 5) a cap m is s o y n { c with off := c.off + 1 } (.slice va c.st.length vc) W4 := ⟨hm, ⟨hc.ps, hc.pp, hc.ring, hc.a, hc.st, hc.sr⟩, hX4, hS4.own h3.own h3.vx, hS4.blk h3.mem (by omega), by
    have h5 := hS4.below hB3 (by omega) hB3.size
    exact hR.below h5, hn, h3.lx, h3.bl, h3.vx⟩
  have hr44 : R4 w.heap.size (stCs zeroC nilS) 0 false 0 W4 := hr43.same (fun j hj _ => hS4.block j (by have := hr43.e.2; omega) (by omega)) hS4.size
  have hB4 : Below w.heap.size w W4 := hS4.below hB3 (by omega) hB3.size
  have kdo0 := fun (i : Ins) (q : insE i = 0) => cdo_any h4' i q
  have kdo : ∀ i, fetI c (m.map (·.g)) = i → Calls Try.prog 35 #[.pointer (some ⟨bx, 0, none⟩), .agg (ins3 i).toArray] W4 (DoP bx bm (w.heap.size + 5) (.slice a m.length cap) n SC W4) := fun i q => by
    have e : SC = opD { c with off := c.off + 1 } (m.map (·.g)) i := by rw [← q]; exact hst2.out
    rw [e]
    exact kdo0 i (by rw [← q]; exact hi)
  obtain ⟨i, hfi⟩ : ∃ i, fetI c (m.map (·.g)) = i := ⟨_, rfl⟩
  have hfi2 : decI (wAt (kn (m.map (·.g)) c.seg) c.off) = i := hfi
  rw [hfi2]
  have kdo := kdo i hfi
  have hflt : Aside (SC.e ≠ 0 → SC = flt SC.e) := fun q => by rw [hst2.out] at q ⊢; exact opD_flt q
  clear hst kfe h3 hr43 hB3 hX4 hS4 hE hi hfi hfi2 hgs hst2 kdo0
  go_wp2_with fail
  refine kdo.mono ?_
  rintro e W5 (⟨hE, rfl, hb⟩ | ⟨hE, ⟨qq, rfl⟩, v5, hX5, hO5, hw5⟩)
  · have hr45 := hr44.keep hb
    have hB5 := Below.then hB4 hb
    clear kdo h4' hr44 hB4
    go_wp2_with fail
    refine leaves_cons (f := 32) (args := #[.pointer (some ⟨w.heap.size + 1, 0, none⟩), .pointer (some ⟨w.heap.size + 2, 0, none⟩), .pointer (some ⟨w.heap.size + 3, 0, none⟩), .pointer (some ⟨w.heap.size + 4, 0, none⟩)]) (by simp) (by simp [go_sem]) ?_
    refine (catch_panicking w.heap.size (stCs zeroC nilS) rfl 0 0 false (SC.e) W5 hr45).mono ?_
    rintro e u' w'' ⟨rfl, rfl, hr9, hF⟩
    refine ⟨_, results_r4 rfl _ _ w.heap.size rfl rfl rfl rfl (stCs zeroC nilS) rfl 0 (SC.e) false hr9, ?_⟩
    rw [hSC.out, hflt.out hE]
    exact StP.fault _ (hB5.trans (hF.bl.mono (Nat.le_succ _)))
  have hr45 : R4 w.heap.size (stCs zeroC nilS) 0 false 0 W5 := hr44.same (fun j hj hj2 => hw5.block j hj (by have := hr44.e.2; omega) (by omega)) hw5.size
  clear kdo h4' hr44
  go_upto_region 7 with fail
  have hdr := (Below.refl W5.heap.size W5).drew
  have hX6 := hX5.keep hdr
  have hO6 := hO5.below hdr
  have hr46 := hr45.keep hdr
  have hw6 : Wr bm (w.heap.size + 5) (.slice a m.length cap) n W4 SC.wr W5.drew := hw5.drew
  clear hX5 hO5 hr45 hw5 hdr
  refine wp_region_held_drew (S := (XAt bx SC.t v5 (rest3 bm SC.v SC.told))) (by kernel_rfl) (by exact hX6) ?_
  intro hHeld
  generalize W5.drew = w0 at *
  have hlT : (stCs SC.t v5).length = 18 := st_len hX6.ps
  obtain ⟨WA, hWA, hth, hA, hF, hRB, hRC, hD⟩ := hr46.put (stCs SC.t v5) (by rw [hlT]; rfl) (by rw [hlT]; decide) SC.v SC.told 0
  have hFB := hF.set (w.heap.size + 2) (by omega) 0 (.int .i64 SC.v)
  have hFC := hFB.set (w.heap.size + 3) (by omega) 0 (.bool SC.told)
  have hF4 := far4 hF SC.v 0 SC.told
  have hXA := hF.x hX6 hbxl
  have hXB := hFB.x hX6 hbxl
  have hXC := hFC.x hX6 hbxl
  have hXD := hF4.x hX6 hbxl
  obtain ⟨wa, wc, hwv, -, -, -⟩ := hO6.slice frc_len
  have hone := st_one SC.t v5 (by rw [hwv]; rfl)
  have hszT : (Try.prog.info? 33).map (·.size) = some (stCs SC.t v5).length := by rw [hlT]; exact hszS
  have hO9 : OwnR 84 3 frc (((WA.setCell ⟨w.heap.size + 2, 0, none⟩ (.int .i64 SC.v)).setCell ⟨w.heap.size + 3, 0, none⟩ (.bool SC.told)).setCell ⟨w.heap.size + 4, 0, none⟩ (.int .i64 0)) w.heap.size v5 SC.t.st := (hO6.keep fun k hk => hF4.up k (by have := (hO6.lt hk).1; omega)).lower (by omega)
  have hW9 := hw6.after hB4 (by omega) hF4 hbm
  obtain ⟨Y, hY⟩ : ∃ Y, stCs SC.t v5 = Y := ⟨_, rfl⟩
  have hsY : ∀ W, XAt bx SC.t v5 (rest3 bm SC.v SC.told) W → W.rangeAt bx 0 Y := fun W h => by rw [← hY]; exact h.st
  simp only [hY] at hWA hth hone hszT hlT hD hRB hRC hA
  replace hY : Aside (stCs SC.t v5 = Y) := hY
  clear hF hFB hFC hF4 hw6 hB4 hr46 hO6 hwv
  refine wpAnyH_take (i := 0) (v := ?_) (by simp only [gA, gB, gC]; rfl) (by kernel_rfl) (by kernel_rfl) (by kernel_rfl) (by exact step_hQ (by decide)) (Or.inl ⟨by rfl, ?_⟩) (by assumption) ?_; rotate_left; (focus (intro w hSw; (try dsimp only at hSw); go_simp; try with_reducible rfl)); (try simp only [Act.put, sA, sB, sC])
  refine wpAnyH_take (i := 1) (v := _) (by simp only [gA, gB, gC]; rfl) (by kernel_rfl) (by kernel_rfl) (by kernel_rfl) (by exact step_hQ (by decide)) (yieldsIf_load_mid (by rfl) 33 _ rfl bx 0 rfl Y _ (fun W s => hsY W s) hundS rfl hszT) (by assumption) ?_; (try simp only [Act.put, sA, sB, sC])
  refine wpAnyH_take (i := 2) (v := ?_) (by simp only [gA, gB, gC]; rfl) (by kernel_rfl) (by kernel_rfl) (by kernel_rfl) (by exact step_hQ (by decide)) (Or.inl ⟨by rfl, ?_⟩) (by assumption) ?_; rotate_left; (focus (intro w hSw; (try dsimp only at hSw); go_simp; try with_reducible rfl)); (try simp only [Act.put, sA, sB, sC])
  refine wpAnyH_take (i := 3) (v := _) (by simp only [gA, gB, gC]; rfl) (by kernel_rfl) (by kernel_rfl) (by kernel_rfl) (by exact step_hQ (by decide)) (yields_cellI (by rfl) _ rfl ⟨bx, 19, none⟩ rfl (.int .i64 SC.v) (fun _ s => (s.tails (i := 1) rfl).1) int64_load) (by assumption) ?_; (try simp only [Act.put, sA, sB, sC])
  refine wpAnyH_take (i := 4) (v := ?_) (by simp only [gA, gB, gC]; rfl) (by kernel_rfl) (by kernel_rfl) (by kernel_rfl) (by exact step_hQ (by decide)) (Or.inl ⟨by rfl, ?_⟩) (by assumption) ?_; rotate_left; (focus (intro w hSw; (try dsimp only at hSw); go_simp; try with_reducible rfl)); (try simp only [Act.put, sA, sB, sC])
  refine wpAnyH_take (i := 5) (v := _) (by simp only [gA, gB, gC]; rfl) (by kernel_rfl) (by kernel_rfl) (by kernel_rfl) (by exact step_hQ (by decide)) (yields_cellI (by rfl) _ rfl ⟨bx, 20, none⟩ rfl (.bool SC.told) (fun _ s => (s.tails (i := 2) rfl).1) bool_load) (by assumption) ?_; (try simp only [Act.put, sA, sB, sC])
  refine wpAnyH_ready (rs := [6]) (by kernel_rfl) (by simp) ?_
  refine AllReadyH.cons (by simp only [gA, gB, gC]; rfl) (fun K hK => ?_) AllReadyH.nil
  refine step_store_rowC rfl _ _ rfl (w.heap.size + 1) rfl Y rfl hth hszT hone hWA ?_
  (try simp only [Act.put, sA, sB, sC])
  refine hK.out _ _ (hXA) ?_
  clear hHeld hK
  intro hHeld
  (try simp only [Act.put, sA, sB, sC])
  refine wpAnyH_ready (rs := [7]) (by kernel_rfl) (by simp) ?_
  refine AllReadyH.cons (by simp only [gA, gB, gC]; rfl) (fun K hK => ?_) AllReadyH.nil
  refine step_st rfl _ _ rfl ⟨w.heap.size + 2, 0, none⟩ rfl (.int .i64 SC.v) rfl (int64_store _ _ _ _ (hA.o.1 0 _ rfl).1 (hA.o.1 0 _ rfl).2) ?_
  (try simp only [Act.put, sA, sB, sC])
  refine hK.out _ _ (hXB) ?_
  clear hHeld hK
  intro hHeld
  (try simp only [Act.put, sA, sB, sC])
  refine wpAnyH_ready (rs := [8]) (by kernel_rfl) (by simp) ?_
  refine AllReadyH.cons (by simp only [gA, gB, gC]; rfl) (fun K hK => ?_) AllReadyH.nil
  refine step_st rfl _ _ rfl ⟨w.heap.size + 3, 0, none⟩ rfl (.bool SC.told) rfl (bool_store _ _ _ _ (hRB.t.1 0 _ rfl).1 (hRB.t.1 0 _ rfl).2) ?_
  (try simp only [Act.put, sA, sB, sC])
  refine hK.out _ _ (hXC) ?_
  clear hHeld hK
  intro hHeld
  (try simp only [Act.put, sA, sB, sC])
  refine wpAnyH_ready (rs := [9]) (by kernel_rfl) (by simp) ?_
  refine AllReadyH.cons (by simp only [gA, gB, gC]; rfl) (fun K hK => ?_) AllReadyH.nil
  refine step_st rfl _ _ rfl ⟨w.heap.size + 4, 0, none⟩ rfl (.int .i64 0) rfl (errno_store _ _ _ _ (hRC.e.1 0 _ rfl).1 (hRC.e.1 0 _ rfl).2) ?_
  (try simp only [Act.put, sA, sB, sC])
  refine hK.out _ _ (hXD) ?_
  clear hHeld hK
  intro hHeld
  (try simp only [Act.put, sA, sB, sC])
  refine wpAnyH_done (by kernel_rfl) ?_ _
  go_wp2_with fail
  refine leaves_cons (f := 32) (args := #[.pointer (some ⟨w.heap.size + 1, 0, none⟩), .pointer (some ⟨w.heap.size + 2, 0, none⟩), .pointer (some ⟨w.heap.size + 3, 0, none⟩), .pointer (some ⟨w.heap.size + 4, 0, none⟩)]) (by simp) (by simp [go_sem]) ?_
  refine (catch_idle _ _ _ _ _).mono ?_
  rintro e u' w'' ⟨rfl, rfl, rfl⟩
  refine ⟨_, results_r4 rfl _ _ w.heap.size rfl rfl rfl rfl Y hlT SC.v 0 SC.told hD, ?_⟩
  rw [hSC.out]
  exact ⟨v5, by rw [hY.out, hE], hO9, hW9⟩
end Go.Proofs.Ytinibccphecdfaa

/-! THE LAWS' SMALL FUNCTIONS OF CHAPTER 16: a processor that is new; a segment of instructions; a memory made. -/
namespace Go.Proofs.Ytinibccphecdfaa
open Go.RowKit
set_option maxRecDepth 8000
set_option linter.unusedSimpArgs false
set_option linter.unusedVariables false

theorem newC_ok : newC.Ok := by
  refine ⟨rfl, fun p hp => ?_, ⟨by decide, by decide⟩, ⟨by decide, by decide⟩, by decide, fun f hf => (by simp [newC] at hf)⟩
  simp [newC] at hp
  rcases hp with rfl | rfl | rfl | rfl <;> refine ⟨?_, ?_, ?_, ?_⟩ <;> decide
def newK (k : Nat) : Cp := ⟨0, 0, 4, 0, [⟨0, 0, 4⟩, ⟨1, 0, 4⟩, ⟨2, 0, 4⟩, ⟨3, 0, 4⟩].take k ++ [⟨0, 0, 0⟩, ⟨0, 0, 0⟩, ⟨0, 0, 0⟩, ⟨0, 0, 0⟩].drop k, [], false⟩
theorem newK_len {k : Nat} (h : k ≤ 4) : (newK k).ps.length = 4 := by simp only [newK, List.length_append, List.length_take, List.length_drop, List.length_cons, List.length_nil]; omega
theorem newK_step {k : Nat} (h : k < 4) : setM (stCs (newK k) nilS) (4 + k * 3) (ptr3 ⟨(k : Int), 0, 4⟩) = stCs (newK (k + 1)) nilS := by
  match k, h with
  | 0, _ => rfl
  | 1, _ => rfl
  | 2, _ => rfl
  | 3, _ => rfl
theorem StAt.putPtr {b : Nat} {c c' : Cp} {v : Value} {W : World} (h : StAt b c v W) {k : Nat} (hk : k < 4) (q : Ptr) (h4 : c'.ps.length = 4) (he : setM (stCs c v) (4 + k * 3) (ptr3 q) = stCs c' v) : ∃ W', W.setCells b (4 + k * 3) (ptr3 q) = W' ∧ W.there b (4 + k * 3) (ptr3 q).length ∧ StAt b c' v W' ∧ (∀ B W0, B ≤ b → Below B W0 W → Below B W0 W') ∧ ∀ j, j ≠ b → W'.heap[j]? = W.heap[j]? := by
  have hl : 4 + k * 3 + (ptr3 q).length ≤ (stCs c v).length := by rw [st_len h.ps, ptr3_len]; omega
  have h1 := Blk.putM (ptr3 q) (4 + k * 3) h.blk.1 hl
  rw [he] at h1
  exact ⟨_, rfl, h.blk.1.thereM _ _ hl, ⟨h4, h1, h1.lt (List.getElem?_eq_getElem (by rw [st_len h4]; decide : 0 < (stCs c' v).length))⟩, fun B W0 hB hb => Below.cells hB _ _ hb, fun j hj => heap_setCells_other hj _ _ _⟩
set_option maxRecDepth 8000 in
set_option maxHeartbeats 2000000 in
theorem cnew_any (w : World) : Calls Try.prog 12 #[] w fun e w' => e = .returned (.agg (stCs newC nilS).toArray) ∧ Below w.heap.size w w' := by
  have hundS := Try.underlying33
  have hszS : (Try.prog.info? 33).map (·.size) = some (stCs newC nilS).length := by kernel_rfl
  have hszP : (Try.prog.info? 24).map (·.size) = some 3 := by kernel_rfl
  have hr0 : StAt w.heap.size zeroC nilS (w.alloc (.cells zS 33)) := ⟨rfl, blkl_alloc w (stCs zeroC nilS).toArray 33⟩
  have hB0 := alloc_below w (.cells zS 33)
  have hsw : (w.alloc (.cells zS 33)).heap.size = w.heap.size + 1 := by simp
  obtain ⟨W1, hW1, hth1, hs1, hb1⟩ := new_st (w.alloc (.cells zS 33)) (newK 0) rfl nilS 33
  rw [hsw] at hW1 hth1 hs1
  have hr1 := hr0.keep hb1
  have hB1 := Below.then hB0 hb1
  have hone0 : ∀ u ∈ stCs (newK 0) nilS, u.oneCell' = true := st_one _ _ rfl
  have hbd : ∀ w : World, (Instr.build 33 #[(2, .int .i64 4)]).run Try.prog w = .ok (.agg (stCs (newK 0) nilS).toArray) w := fun w => by
    have h1 := Try.underlying33
    show _ = Result.ok (Value.agg #[.int .i64 0, .int .i64 0, .int .i64 4, .int .i64 0, .int .i64 0, .int .i64 0, .int .i64 0, .int .i64 0, .int .i64 0, .int .i64 0, .int .i64 0, .int .i64 0, .int .i64 0, .int .i64 0, .int .i64 0, .int .i64 0, .slice none 0 0, .bool false]) w
    go_simp
  have hszX : (Try.prog.info? 33).map (·.size) = some (stCs (newK 0) nilS).length := by kernel_rfl
  obtain ⟨X, hX⟩ : ∃ X, stCs (newK 0) nilS = X := ⟨_, rfl⟩
  simp only [hX] at hW1 hth1 hone0 hbd hszX
  clear hX hr0 hB0 hb1 hsw
  go_enter Try.func12, Try.ntmps12
  go_upto_region 2 with (first | (refine wpList_buildv rfl _ rfl #[(2, .int .i64 4)] (by simp [Act.eval]) (hbd _) ?_) | (refine wpList_store_row rfl _ _ rfl (w.heap.size + 1) rfl X rfl hth1 hszX hone0 hW1 ?_) | fail)
  clear hW1 hth1 hone0 hbd hszX
  go_wp2_with fail
  go_loopw [4] (fun t4 wr => ∃ k : Nat, k ≤ 4 ∧ t4 = .int .i64 (k : Int) ∧ StAt w.heap.size zeroC nilS wr ∧ StAt (w.heap.size + 1) (newK k) nilS wr ∧ Below w.heap.size w wr) (fun t4 _ => 4 - (Go.RowKit.intOf t4).toNat)
  case atStart => exact ⟨0, by omega, rfl, hr1, hs1, hB1⟩
  case round =>
  clear hr1 hs1 hB1
  obtain ⟨k, hk, rfl, hr, hs, hB⟩ := hrel
  by_cases hk4 : k < 4
  · have i1 : (k : Int) < 4 := by omega
    have i2 : ¬ (k : Int) < 0 := by omega
    obtain ⟨W2, hW2, hth2, hs2, hk2, hf2⟩ := hs.putPtr hk4 ⟨(k : Int), 0, 4⟩ (newK_len (by omega)) (newK_step hk4)
    have hB2 := hk2 _ _ (Nat.le_succ _) hB
    have hr2 : StAt w.heap.size zeroC nilS W2 := ⟨rfl, hr.blk.1.same (hf2 _ (by omega)), Nat.lt_of_lt_of_le hr.blk.2 (hk2 0 wr (Nat.zero_le _) (Below.refl _ _)).size⟩
    clear hr hs hB hk2 hf2
    go_wp2_with (first | (refine wpList_store_part rfl _ _ rfl (w.heap.size + 1) (4 + k * 3) rfl (ptr3 ⟨(k : Int), 0, 4⟩) rfl hth2 hszP (ptr3J_one _) hW2 ?_) | fail)
    exact ⟨⟨k + 1, by omega, by simp, hr2, hs2, hB2⟩, by simp [Go.RowKit.intOf]; omega⟩
  · obtain rfl : k = 4 := by omega
    have hs4 : StAt (w.heap.size + 1) newC nilS wr := hs
    obtain ⟨W3, hW3, hth3, hr3, hk3⟩ := put_st hr (d := newC) rfl nilS
    have hB3 := hk3 _ _ (Nat.le_refl _) hB
    have hrg := hs4.blk.range
    have hr3r := hr3.blk.range
    have hone : ∀ u ∈ stCs newC nilS, u.oneCell' = true := st_one _ _ rfl
    obtain ⟨Y, hY⟩ : ∃ Y, stCs newC nilS = Y := ⟨_, rfl⟩
    rw [hY] at hW3 hth3 hrg hr3r hone hszS
    replace hY : Aside (stCs newC nilS = Y) := hY
    clear hr hs hB hs4 hr3 hk3
    go_wp2_with (first | (refine wpList_load_row rfl _ rfl (w.heap.size + 1) rfl Y hrg hundS rfl hszS ?_) | (refine wpList_store_row rfl _ _ rfl w.heap.size rfl Y rfl hth3 hszS hone hW3 ?_) | fail)
    refine bodyPost_ret (v := .agg Y.toArray) (results_row1 rfl _ _ w.heap.size rfl Y hr3r hundS rfl hszS) rfl ?_
    exact ⟨by rw [hY.out], hB3⟩
theorem pg_okC : ElemOk 57 30 7 PG.cs :=
  ⟨Try.underlying30, by
    obtain ⟨i, h1, h2, h3, h4⟩ := info_of (e := 57) (z := .agg #[.bool false, .slice none 0 0, .int .i64 0, .int .i64 0, .int .i64 0, .int .i64 0, .int .i64 0]) (sz := 7) (b := 72) (by kernel_rfl)
    exact ⟨i, _, _, h1, h2, h3, h4, rfl, by omega⟩, by omega, pg_len, pg_one⟩
theorem in_okC : ElemOk 64 69 3 ins3 :=
  ⟨Try.underlying69, by
    obtain ⟨i, h1, h2, h3, h4⟩ := info_of (e := 64) (z := .agg #[.int .i64 0, .int .i64 0, .int .i64 0]) (sz := 3) (b := 24) (by kernel_rfl)
    exact ⟨i, _, _, h1, h2, h3, h4, rfl, by omega⟩, by omega, fun _ => rfl, ins3_one⟩
end Go.Proofs.Ytinibccphecdfaa

/-! THE LAWS' SMALL FUNCTIONS OF CHAPTER 16: a memory made; what is known. -/
namespace Go.Proofs.Ytinibccphecdfaa
open Go.RowKit
set_option maxRecDepth 8000
set_option linter.unusedSimpArgs false
set_option linter.unusedVariables false

/-- A row of elements, one behind the other, that was just made. -/
theorem row_list {α : Type} {sz : Nat} {f : α → List Value} (hf : ∀ x, (f x).length = sz) (w : World) (l : List α) (cs : Array Value) (hcs : cs = (l.flatMap f).toArray) (T : TypeId) : RowAt sz f (w.alloc (.cells cs T)) (some ⟨w.heap.size, 0, none⟩) l := fun j x hx => by
  refine ⟨_, rfl, fun i hi => ?_⟩
  rw [add_at, World.cell?_alloc_at _ _ _ _ rfl, hcs]
  rw [List.getElem?_toArray, flat_at hf l j i x hx hi]
/-- A memory of segments, made. -/
theorem mem_list (W : World) (m : List PG) (hm : ∀ x ∈ m, x.At W) (cs : Array Value) (hcs : cs = (m.flatMap PG.cs).toArray) (T1 T2 : TypeId) (n : Nat) (hn : n = m.length) :
    BlkL (W.heap.size + 1) (memCs (.slice (some ⟨W.heap.size, 0, none⟩) m.length m.length) false 0 0 0 0) ((W.alloc (.cells cs T1)).alloc (.cells #[.slice (some ⟨W.heap.size, 0, none⟩) n n, .bool false, .int .i64 0, .int .i64 0, .int .i64 0, .int .i64 0] T2)) ∧ RowG ((W.alloc (.cells cs T1)).alloc (.cells #[.slice (some ⟨W.heap.size, 0, none⟩) n n, .bool false, .int .i64 0, .int .i64 0, .int .i64 0, .int .i64 0] T2)) (some ⟨W.heap.size, 0, none⟩) m ∧ Below W.heap.size W ((W.alloc (.cells cs T1)).alloc (.cells #[.slice (some ⟨W.heap.size, 0, none⟩) n n, .bool false, .int .i64 0, .int .i64 0, .int .i64 0, .int .i64 0] T2)) := by
  subst hn
  have b1 := alloc_below W (.cells cs T1)
  have r1 := row_list pg_len W m cs hcs T1
  have s1 := World.size_alloc W (.cells cs T1)
  generalize W.alloc (.cells cs T1) = W1 at *
  have b2 := alloc_below W1 (.cells (memCs (.slice (some ⟨W.heap.size, 0, none⟩) m.length m.length) false 0 0 0 0).toArray T2)
  have m2 := blkl_alloc W1 (memCs (.slice (some ⟨W.heap.size, 0, none⟩) m.length m.length) false 0 0 0 0).toArray T2
  rw [s1] at m2
  exact ⟨m2, ⟨r1.below pg_len b2, fun x hx => ((hm x hx).below b1).below b2⟩, Below.then b1 b2⟩
/-- A state in a new block, as a step answered it. -/
theorem new_stC (W : World) (c : Cp) (h4 : c.ps.length = 4) (v : Value) : ∃ W', (W.alloc (.cells zS 33)).setCells W.heap.size 0 (stCs c v) = W' ∧ (W.alloc (.cells zS 33)).there W.heap.size 0 (stCs c v).length ∧ StAt W.heap.size c v W' ∧ Below W.heap.size W W' := new_st W c h4 v 33
/-- A stack, wherever it lies. -/
def SV (v : Value) (st : List Fr) (W : World) : Prop := ∃ a cap, v = .slice a st.length cap ∧ (a = none → cap = 0) ∧ RowAt 3 frc W a st
theorem SV.nil (W : World) : SV nilS [] W := ⟨none, 0, rfl, fun _ => rfl, fun j x h => by simp at h⟩
theorem SV.own {v : Value} {st : List Fr} {W : World} {L : Nat} (h : OwnR 84 3 frc W L v st) : SV v st W := by
  obtain ⟨a, cap, hv, -, hn, hr⟩ := h.slice frc_len
  exact ⟨a, cap, hv, hn, hr⟩
theorem SV.below {v : Value} {st : List Fr} {W W' : World} (h : SV v st W) (hb : Below W.heap.size W W') : SV v st W' := by
  obtain ⟨a, cap, hv, hn, hr⟩ := h
  exact ⟨a, cap, hv, hn, hr.below frc_len hb⟩
theorem SV.one {v : Value} {st : List Fr} {W : World} (h : SV v st W) : v.oneCell' = true := by
  obtain ⟨a, cap, hv, hn, hr⟩ := h
  rw [hv]
  rfl
/-- A memory whose segments are m, in the block bm. -/
structure MemO (bm : Nat) (a : Option Addr) (cap : Nat) (m : List PG) (is : Bool) (s o y n : Int) (W : World) : Prop where
  mg : MG m
  nb : 0 ≤ n ∧ n < 1000000
  blk : BlkL bm (memCs (.slice a m.length cap) is s o y n) W
  row : RowG W a m
theorem MemO.below {bm : Nat} {a : Option Addr} {cap : Nat} {m : List PG} {is : Bool} {s o y n : Int} {W W' : World} (h : MemO bm a cap m is s o y n W) (hb : Below W.heap.size W W') : MemO bm a cap m is s o y n W' := ⟨h.mg, h.nb, stab_blk _ _ _ _ h.blk hb, h.row.below hb⟩
theorem cstepV (c : Cp) (hc : c.Ok) (v : Value) {bm : Nat} {a : Option Addr} {cap : Nat} {m : List PG} {is : Bool} {s o y n : Int} {w : World} (hM : MemO bm a cap m is s o y n w) (hv : SV v c.st w) (O : Ot) (hO : stepC c (m.map (·.g)) = O) :
    Calls Try.prog 17 #[.agg (stCs c v).toArray, memI bm] w (StP bm (.slice a m.length cap) n O w) := by
  obtain ⟨a1, c1, rfl, hn, hr⟩ := hv
  rw [← hO]
  exact cstep_any c hc a1 c1 hn bm a cap m hM.mg is s o y n hM.nb w hr hM.blk hM.row
def knG : Sg := ⟨true, [insW ⟨3, 0, 5⟩, insW ⟨22, 0, 0⟩], 7, ⟨4, 4, 4, 0⟩⟩
def knT : Cp := ⟨0, 1, 4, 5, [⟨0, 0, 4⟩, ⟨1, 0, 4⟩, ⟨2, 0, 4⟩, ⟨3, 0, 4⟩], [], false⟩
theorem kn_step1 : stepC newC [knG] = okC knT := by
  have h1 : fetE newC [knG] = 0 := by decide +kernel
  have h2 : fetI newC [knG] = ⟨3, 0, 5⟩ := by
    have := (dec_enc (i := ⟨3, 0, 5⟩) (by decide +kernel)).2
    exact this
  unfold stepC
  rw [if_neg (by decide), if_neg (by rw [h1]; decide), h2]
  rfl
theorem kn_step2 : stepC knT [knG] = ⟨0, { knT with off := 2 }, none, 5, true⟩ := by
  have h1 : fetE knT [knG] = 0 := by decide +kernel
  have h2 : fetI knT [knG] = ⟨22, 0, 0⟩ := by
    have := (dec_enc (i := ⟨22, 0, 0⟩) (by decide +kernel)).2
    exact this
  unfold stepC
  rw [if_neg (by decide), if_neg (by rw [h1]; decide), h2]
  rfl
theorem knG_ok : knG.Ok := ⟨fun _ => by refine ⟨?_, ?_, ?_, ?_, ?_, ?_⟩ <;> decide, fun x hx => by simp [knG] at hx; rcases hx with rfl | rfl <;> exact insW_fit _, by decide⟩
theorem knT_ok : knT.Ok := ⟨rfl, newC_ok.pp, newC_ok.ring, ⟨by decide, by decide⟩, by decide, fun f hf => (by simp [knT] at hf)⟩
set_option maxRecDepth 8000 in
set_option maxHeartbeats 4000000 in
theorem ck_any (w : World) : Calls Try.prog 9 #[] w fun e w' => e = .returned (.bool true) ∧ Below w.heap.size w w' := by
  have hundS := Try.underlying33
  have hszS : (Try.prog.info? 33).map (·.size) = some 18 := by kernel_rfl
  have hmi : ∀ (v : Value) (w : World), (Instr.makeInterface 43 v).run Try.prog w = .ok (.iface 43 v) w := fun _ _ => rfl
  have k1 := riEnc_any ⟨3, 0, 5⟩ w
  have k2 := fun W : World => riEnc_any ⟨22, 0, 0⟩ W
  rw [show insE ⟨3, 0, 5⟩ = 0 by decide +kernel] at k1
  simp only [show insE ⟨22, 0, 0⟩ = 0 by decide +kernel] at k2
  obtain ⟨A, hA⟩ : ∃ A, insW ⟨3, 0, 5⟩ = A := ⟨_, rfl⟩
  obtain ⟨B, hB⟩ : ∃ B, insW ⟨22, 0, 0⟩ = B := ⟨_, rfl⟩
  rw [hA] at k1
  simp only [hB] at k2
  replace hA : Aside (insW ⟨3, 0, 5⟩ = A) := hA
  replace hB : Aside (insW ⟨22, 0, 0⟩ = B) := hB
  go_enter Try.func9, Try.ntmps9
  go_wp2_with fail
  refine k1.mono ?_
  rintro e W1 ⟨rfl, hb1⟩
  go_wp2_with fail
  refine (k2 W1).mono ?_
  rintro e W2 ⟨rfl, hb2⟩
  have hB2 := Below.then hb1 hb2
  clear k1 k2 hb1 hb2
  have hbw := alloc_below W2 (.cells #[.int .i64 A, .int .i64 B] 2)
  have hrw := row_list (f := wcl) (sz := 1) (fun _ => rfl) W2 [A, B] #[.int .i64 A, .int .i64 B] rfl 2
  have hBw := Below.then hB2 hbw
  obtain ⟨x, hx⟩ : ∃ x : PG, PG.mk knG (some ⟨W2.heap.size, 0, none⟩) 2 = x := ⟨_, rfl⟩
  have hxg : x.g = knG := by rw [← hx]
  have hxa : x.At (W2.alloc (.cells #[.int .i64 A, .int .i64 B] 2)) := by
    rw [← hx]
    show RowAt 1 wcl _ _ [insW ⟨3, 0, 5⟩, insW ⟨22, 0, 0⟩]
    rw [hA.out, hB.out]
    exact hrw
  have hxv : x.wa = some ⟨W2.heap.size, 0, none⟩ := by rw [← hx]
  have hxc : x.cs.toArray = #[.bool true, .slice (some ⟨W2.heap.size, 0, none⟩) 2 2, .int .i64 7, .int .i64 4, .int .i64 4, .int .i64 4, .int .i64 0] := by rw [← hx]; rfl
  obtain ⟨hN, hR, hbm⟩ := mem_list (W2.alloc (.cells #[.int .i64 A, .int .i64 B] 2)) [x] (fun z hz => by rw [List.mem_singleton.1 hz]; exact hxa) #[.bool true, .slice (some ⟨W2.heap.size, 0, none⟩) 2 2, .int .i64 7, .int .i64 4, .int .i64 4, .int .i64 4, .int .i64 0] (by rw [← hxc]; simp) 57 47 1 rfl
  have hMG : MG [x] := ⟨by simp, fun z hz => by rw [List.mem_singleton.1 hz, hxg]; exact knG_ok, fun z hz => by rw [List.mem_singleton.1 hz, hxv]; intro q; cases q⟩
  have hBm := Below.then hBw hbm
  have hmg : [x].map (·.g) = [knG] := by simp [hxg]
  go_upto_region 4 with fail
  have hsz : (W2.alloc (.cells #[.int .i64 A, .int .i64 B] 2)).heap.size = W2.heap.size + 1 := by simp
  rw [hsz] at hN hR hBm
  clear hbm hbw hrw hBw hxa hsz
  generalize ((W2.alloc (.cells #[.int .i64 A, .int .i64 B] 2)).alloc (.cells #[.bool true, .slice (some ⟨W2.heap.size, 0, none⟩) 2 2, .int .i64 7, .int .i64 4, .int .i64 4, .int .i64 4, .int .i64 0] 57)).alloc (.cells #[.slice (some ⟨W2.heap.size + 1, 0, none⟩) 1 1, .bool false, .int .i64 0, .int .i64 0, .int .i64 0, .int .i64 0] 47) = W3 at *
  have hM3 : MemO (W2.heap.size + 2) (some ⟨W2.heap.size + 1, 0, none⟩) 1 [x] false 0 0 0 0 W3 := ⟨hMG, ⟨by decide, by decide⟩, hN, hR⟩
  clear hN hR hMG hx hxc hxv hA hB
  go_wp2_with fail
  refine (cnew_any W3).mono ?_
  rintro e W4 ⟨rfl, hb4⟩
  have hM4 := hM3.below hb4
  have hB4 := Below.then hBm hb4
  have ks := cstepV newC newC_ok nilS hM4 (SV.nil W4) (okC knT) (by rw [hmg]; exact kn_step1)
  clear hM3 hBm hb4
  go_wp2_with fail
  refine ks.mono ?_
  rintro e W5 ⟨v5, rfl, ho5, hw5⟩
  have hb5 : Below W4.heap.size W4 W5 := hw5
  have hM5 := hM4.below hb5
  have hB5 := Below.then hB4 hb5
  obtain ⟨W6, hW6, hth6, hs6, hb6⟩ := new_stC W5 knT rfl v5
  have hM6 := hM5.below hb6
  have hB6 := Below.then hB5 hb6
  have hv5 := SV.own ho5
  have hv6 := hv5.below hb6
  have hone := st_one knT v5 hv5.one
  have hlen : (stCs knT v5).length = 18 := st_len rfl
  have ks2 := cstepV knT knT_ok v5 hM6 hv6 ⟨0, { knT with off := 2 }, none, 5, true⟩ (by rw [hmg]; exact kn_step2)
  have hrs := hs6.blk.range
  obtain ⟨Y, hY⟩ : ∃ Y, stCs knT v5 = Y := ⟨_, rfl⟩
  have hYv : Aside (.agg (stCs (okC knT).t v5).toArray = Value.agg Y.toArray) := by
    show _ = _
    rw [← hY]; rfl
  rw [hY] at hW6 hth6 hone hlen hrs ks2
  have hszY : (Try.prog.info? 33).map (·.size) = some Y.length := by rw [hlen]; exact hszS
  clear ks hM4 hB4 hb5 hw5 hM5 hB5 ho5 hv5 hs6 hb6 hv6 hY hlen
  go_wp2_with (first | (refine wpList_store_row rfl _ _ rfl W5.heap.size rfl Y hYv.out hth6 hszY hone hW6 ?_) | (refine wpList_load_row rfl _ rfl W5.heap.size rfl Y hrs hundS rfl hszY ?_) | fail)
  refine ks2.mono ?_
  rintro e W7 ⟨v7, rfl, ho7, hw7⟩
  have hb7 : Below W6.heap.size W6 W7 := hw7
  have hB7 := Below.then hB6 hb7
  obtain ⟨W8, hW8, hth8, hs8, hb8⟩ := new_stC W7 { knT with off := 2 } rfl v7
  have hB8 := Below.then hB7 hb8
  have hone8 := st_one { knT with off := 2 } v7 (SV.own ho7).one
  have hlen8 : (stCs { knT with off := 2 } v7).length = 18 := st_len rfl
  obtain ⟨Z, hZ⟩ : ∃ Z, stCs { knT with off := 2 } v7 = Z := ⟨_, rfl⟩
  have hZv : Aside (.agg (stCs (Ot.mk 0 { knT with off := 2 } none 5 true).t v7).toArray = Value.agg Z.toArray) := by
    show _ = _
    rw [← hZ]
  rw [hZ] at hW8 hth8 hone8 hlen8
  have hszZ : (Try.prog.info? 33).map (·.size) = some Z.length := by rw [hlen8]; exact hszS
  clear ks2 hM6 hB6 hb7 hw7 hB7 ho7 hs8 hb8 hZ hlen8 hrs hone hszY hW6 hth6
  go_wp2_with (first | (refine wpList_store_row rfl _ _ rfl W7.heap.size rfl Z hZv.out hth8 hszZ hone8 hW8 ?_) | fail)
  go_ret
  exact ⟨rfl, hB8⟩
end Go.Proofs.Ytinibccphecdfaa

/-! THE LAWS' SMALL FUNCTIONS OF CHAPTER 16: a segment of instructions. -/
namespace Go.Proofs.Ytinibccphecdfaa
open Go.RowKit
set_option maxRecDepth 8000
set_option linter.unusedSimpArgs false
set_option linter.unusedVariables false

def oneG (is : List Ins) (more : List Int) : Sg := ⟨true, is.map insW ++ more, 7, ⟨4, 4, 4, 0⟩⟩
theorem sgCs_one (g : Sg) (a : Option Addr) (n c : Nat) : ∀ u ∈ sgCs g (.slice a n c), u.oneCell' = true := fun u hu => by
  simp [sgCs] at hu
  rcases hu with rfl | rfl | rfl | rfl | rfl | rfl | rfl <;> rfl
theorem gset (g : Sg) (v u : Value) {b : Nat} {W : World} (h : BlkL b (sgCs g v) W) : BlkL b (sgCs g u) (W.setCell ⟨b, 1, none⟩ u) := by
  have h1 := h.1.set 1 u (by show 1 < 7; decide)
  exact ⟨h1, h1.lt rfl⟩
set_option maxRecDepth 8000 in
set_option maxHeartbeats 4000000 in
theorem cone_any (is : List Ins) (more : List Int) (a b : Option Addr) (ca cb : Nat) (hn1 : is.length ≤ 100) (hn2 : more.length ≤ 100) (hbn : b = none → cb = 0) (w : World) (ha : RowAt 3 ins3 w a is) (hb : RowAt 1 wcl w b more) :
    Calls Try.prog 21 #[.slice a is.length ca, .slice b more.length cb] w fun e w' => ∃ x : PG, x.g = oneG is more ∧ e = .returned (.agg x.cs.toArray) ∧ OwnR 2 1 wcl w' w.heap.size x.v x.g.ws ∧ Below w.heap.size w w' := by
  have hundG := Try.underlying57
  have hszG : (Try.prog.info? 57).map (·.size) = some 7 := by kernel_rfl
  have hundI := Try.underlying64
  have hszI : (Try.prog.info? 64).map (·.size) = some 3 := by kernel_rfl
  have hbm : b = none → cb = 0 ∧ more.length = 0 := fun q => ⟨hbn q, by
    cases hm : more with
    | nil => rfl
    | cons y r =>
      obtain ⟨z, hz, -⟩ := hb 0 y (by rw [hm]; rfl)
      rw [q] at hz; cases hz⟩
  obtain ⟨G, hG⟩ : ∃ G, oneG is more = G := ⟨_, rfl⟩
  have hr0 := blkl_alloc w (sgCs zeroG nilS).toArray 57
  have hB0 := alloc_below w (.cells (sgCs zeroG nilS).toArray 57)
  have hsw : (w.alloc (.cells (sgCs zeroG nilS).toArray 57)).heap.size = w.heap.size + 1 := by simp
  obtain ⟨W1, hW1, hth1, hg1, hb1⟩ := put_new (w.alloc (.cells (sgCs zeroG nilS).toArray 57)) (sgCs zeroG nilS).toArray 57 (sgCs (oneG [] []) nilS) rfl (by show 0 < 7; decide)
  rw [hsw] at hW1 hth1 hg1
  have hr1 := stab_blk _ _ _ _ hr0 hb1
  have hB1 := Below.then hB0 hb1
  replace hW1 : ((w.alloc (.cells #[.bool false, .slice none 0 0, .int .i64 0, .int .i64 0, .int .i64 0, .int .i64 0, .int .i64 0] 57)).alloc (.cells #[.bool false, .slice none 0 0, .int .i64 0, .int .i64 0, .int .i64 0, .int .i64 0, .int .i64 0] 57)).setCells (w.heap.size + 1) 0 (sgCs (oneG [] []) nilS) = W1 := hW1
  replace hth1 : ((w.alloc (.cells #[.bool false, .slice none 0 0, .int .i64 0, .int .i64 0, .int .i64 0, .int .i64 0, .int .i64 0] 57)).alloc (.cells #[.bool false, .slice none 0 0, .int .i64 0, .int .i64 0, .int .i64 0, .int .i64 0, .int .i64 0] 57)).there (w.heap.size + 1) 0 (sgCs (oneG [] []) nilS).length := hth1
  replace hG : Aside (oneG is more = G) := hG
  clear hr0 hB0 hb1 hsw
  obtain ⟨n, hn⟩ : ∃ n, is.length = n := ⟨_, rfl⟩
  rw [hn] at hn1 ⊢
  replace hn : Aside (is.length = n) := hn
  go_enter Try.func21, Try.ntmps21
  go_upto_region 2 with (first | (refine wpList_store_row rfl _ _ rfl (w.heap.size + 1) rfl (sgCs (oneG [] []) nilS) rfl hth1 hszG (sgCs_one _ _ _ _) hW1 ?_) | fail)
  clear hW1 hth1
  have ho1 : OwnR 2 1 wcl W1 (w.heap.size + 2) nilS [] := OwnR.nil _ _ _ _ _
  go_wp2_with fail
  go_loopw [6] (fun t6 wr => ∃ (k : Nat) (v : Value), k ≤ n ∧ t6 = .int .i64 (k : Int) ∧ BlkL w.heap.size (sgCs zeroG nilS) wr ∧ BlkL (w.heap.size + 1) (sgCs (oneG [] []) v) wr ∧ OwnR 2 1 wcl wr (w.heap.size + 2) v ((is.take k).map insW) ∧ Below w.heap.size w wr) (fun t6 _ => n - (Go.RowKit.intOf t6).toNat)
  case atStart => exact ⟨0, nilS, by omega, rfl, hr1, hg1, ho1, hB1⟩
  case round =>
  clear hr1 hg1 ho1 hB1
  obtain ⟨k, v, hk, rfl, hr, hg, ho, hB⟩ := hrel
  by_cases hkn : k < n
  · obtain ⟨i, hi⟩ : ∃ i, is[k]? = some i := ⟨_, List.getElem?_eq_getElem (by rw [hn.out]; exact hkn)⟩
    have hstep : (is.take (k + 1)).map insW = (is.take k).map insW ++ [insW i] := by rw [List.take_add_one, hi, List.map_append]; rfl
    replace hstep : Aside ((is.take (k + 1)).map insW = (is.take k).map insW ++ [insW i]) := hstep
    have ha2 := ha.below in_okC.len hB
    obtain ⟨y, rfl, -⟩ := ha k i hi
    have hcl := ha2.at in_okC.len hi
    have i1 : (k : Int) < (n : Int) := by omega
    have i2 : ¬ (k : Int) < 0 := by omega
    have i3 : ¬ (n : Int) ≤ (k : Int) := by omega
    have hll : ((is.take k).map insW).length < 900000 := by rw [List.length_map, List.length_take]; omega
    have ke := riEnc_any i wr
    clear hi
    go_wp2_with (first | (refine wpList_load_at rfl _ rfl (y.add (k * 3)) rfl (ins3 i) hcl hundI rfl hszI ?_) | fail)
    refine ke.mono ?_
    rintro e W2 ⟨rfl, hb2⟩
    have hr2 := stab_blk _ _ _ _ hr hb2
    have hg2 := stab_blk _ _ _ _ hg hb2
    have ho2 := ho.below hb2
    have hB2 := Below.then hB hb2
    have hsz : w.heap.size + 2 ≤ W2.heap.size := by have := hg2.2; omega
    obtain ⟨v3, W3, hap, ho3, hgr⟩ := OwnR.push wd_okC ho2 hsz (insW i) (wcl (insW i)).toArray rfl 2 hll
    have hb3 := ho2.grew_below hsz hgr
    have hr3 : BlkL w.heap.size (sgCs zeroG nilS) W3 := ⟨hr2.1.same (hb3.block _ (by omega)), Nat.lt_of_lt_of_le hr2.2 hb3.size⟩
    have hg3 : BlkL (w.heap.size + 1) (sgCs (oneG [] []) v) W3 := ⟨hg2.1.same (hb3.block _ (by omega)), Nat.lt_of_lt_of_le hg2.2 hb3.size⟩
    have hB3 := hB2.trans (hb3.mono (by omega))
    obtain ⟨a3, c3, hv3, -, -, -⟩ := ho3.slice wd_okC.len
    have hr4 := far_blk hr3 (show w.heap.size + 1 ≠ w.heap.size by omega) 1 v3
    have hg4 := gset _ _ v3 hg3
    have ho4 := ho3.keep (w' := W3.setCell ⟨w.heap.size + 1, 1, none⟩ v3) (fun q hq => heap_setCell_other _ ⟨w.heap.size + 1, 1, none⟩ q _ (by have := (ho3.lt hq).1; show q ≠ w.heap.size + 1; omega))
    rw [← hstep.out] at ho4
    have hB4 := hB3.setCell (p := ⟨w.heap.size + 1, 1, none⟩) (Nat.le_succ _) v3
    have x1 := (hg2.1 1 _ rfl).1
    have x3 := (hg3.1 1 _ rfl).1
    have xf := (hg3.1 1 _ rfl).2
    subst hv3
    replace hap : (Builtin.append_ #[53, 53] 53 #[v, .slice (some ⟨W2.heap.size, 0, none⟩) 1 1]).run Try.prog (W2.alloc (.cells #[.int .i64 (insW i)] 2)) = .ok (.slice a3 ((is.take k).map insW ++ [insW i]).length c3) W3 := hap
    have x1A : (W2.alloc (.cells #[.int .i64 (insW i)] 2)).cell? ⟨w.heap.size + 1, 1, none⟩ = some v := ((alloc_below W2 (.cells #[.int .i64 (insW i)] 2)).cell (p := ⟨w.heap.size + 1, 1, none⟩) hg2.2).trans x1
    generalize ((is.take k).map insW ++ [insW i]).length = ln at *
    clear hr hg ho hB hr2 hg2 ho2 hB2 hr3 hg3 ho3 hB3 hb2 hb3 hgr ke hcl ha2 hstep hll
    generalize insW i = wd at *
    go_wp2_with (first | (refine wpList_append rfl _ _ rfl rfl rfl rfl hap ?_) | fail)
    exact ⟨⟨k + 1, _, by omega, by simp, hr4, hg4, ho4, hB4⟩, by simp [Go.RowKit.intOf]; omega⟩
  · obtain rfl : k = n := by omega
    have htk : (is.take k).map insW = is.map insW := by rw [List.take_of_length_le (by rw [hn.out]; exact Nat.le_refl _)]
    rw [htk] at ho
    have hb2 := hb.below wd_okC.len hB
    have hsz : w.heap.size + 2 ≤ wr.heap.size := by have := hg.2; omega
    obtain ⟨v3, W3, hap, ho3, hgr⟩ := OwnR.appendW wd_okC ho hsz b more.length cb more rfl hb2 hbm (by rw [List.length_map, hn.out]; omega) (by omega)
    have hb3 := ho.grew_below hsz hgr
    have hr3 : BlkL w.heap.size (sgCs zeroG nilS) W3 := ⟨hr.1.same (hb3.block _ (by omega)), Nat.lt_of_lt_of_le hr.2 hb3.size⟩
    have hg3 : BlkL (w.heap.size + 1) (sgCs (oneG [] []) v) W3 := ⟨hg.1.same (hb3.block _ (by omega)), Nat.lt_of_lt_of_le hg.2 hb3.size⟩
    have hB3 := hB.trans (hb3.mono (by omega))
    obtain ⟨a3, c3, hv3, -, -, -⟩ := ho3.slice wd_okC.len
    have hr4 := far_blk hr3 (show w.heap.size + 1 ≠ w.heap.size by omega) 1 v3
    have hg4 := gset _ _ v3 hg3
    have ho4 := ho3.keep (w' := W3.setCell ⟨w.heap.size + 1, 1, none⟩ v3) (fun q hq => heap_setCell_other _ ⟨w.heap.size + 1, 1, none⟩ q _ (by have := (ho3.lt hq).1; show q ≠ w.heap.size + 1; omega))
    have hB4 := hB3.setCell (p := ⟨w.heap.size + 1, 1, none⟩) (Nat.le_succ _) v3
    have x1 := (hg.1 1 _ rfl).1
    have x3 := (hg3.1 1 _ rfl).1
    have xf := (hg3.1 1 _ rfl).2
    subst hv3
    obtain ⟨W4, hW4⟩ : ∃ W4, W3.setCell ⟨w.heap.size + 1, 1, none⟩ (.slice a3 (is.map insW ++ more).length c3) = W4 := ⟨_, rfl⟩
    rw [hW4] at hr4 hg4 ho4 hB4
    obtain ⟨W5, hW5, hth5, hr5, hk5⟩ := put_any hr4 (ds := sgCs (oneG [] []) (.slice a3 (is.map insW ++ more).length c3)) rfl (by show 0 < 7; decide)
    have hB5 := hk5 _ _ (Nat.le_refl _) hB4
    have ho5 : OwnR 2 1 wcl W5 w.heap.size (.slice a3 (is.map insW ++ more).length c3) (is.map insW ++ more) := by
      rw [← hW5]
      exact (ho4.setAll (g := w.heap.size) (fun q => by have := (ho4.lt q).1; omega) _).lower (by omega)
    have hrg := hg4.range
    have hrr := hr5.range
    have hone := sgCs_one (oneG [] []) a3 (is.map insW ++ more).length c3
    have hfin : Aside (sgCs (oneG [] []) (.slice a3 (is.map insW ++ more).length c3) = (PG.mk (oneG is more) a3 c3).cs) := rfl
    have hszX : (Try.prog.info? 57).map (·.size) = some (sgCs (oneG [] []) (.slice a3 (is.map insW ++ more).length c3)).length := hszG
    obtain ⟨X, hX⟩ : ∃ X, sgCs (oneG [] []) (.slice a3 (is.map insW ++ more).length c3) = X := ⟨_, rfl⟩
    rw [hX] at hW5 hth5 hrg hrr hone hfin hszX
    replace ho5 : Aside (OwnR 2 1 wcl W5 w.heap.size (PG.mk (oneG is more) a3 c3).v (PG.mk (oneG is more) a3 c3).g.ws) := ho5
    generalize (is.map insW ++ more).length = ln at *
    generalize more.length = mn at *
    clear hr hg ho hB hr3 hg3 ho3 hB3 hb2 hb3 hgr htk hr4 hg4 ho4 hB4 hr5 hk5 hX
    go_upto_region 8 with (first | (refine wpList_append rfl _ _ rfl rfl rfl rfl hap ?_) | fail)
    (try rw [hW4])
    go_wp2_with (first | (refine wpList_load_row rfl _ rfl (w.heap.size + 1) rfl X hrg hundG rfl hszX ?_) | (refine wpList_store_row rfl _ _ rfl w.heap.size rfl X rfl hth5 hszX hone hW5 ?_) | fail)
    refine bodyPost_ret (v := .agg X.toArray) (results_row1 rfl _ _ w.heap.size rfl X hrr hundG rfl hszX) rfl ?_
    exact ⟨PG.mk (oneG is more) a3 c3, rfl, by rw [← hfin.out], ho5.out, hB5⟩
end Go.Proofs.Ytinibccphecdfaa

/-! STEPS OF ONE INSTRUCTION, in plain words. -/
namespace Go.Proofs.Ytinibccphecdfaa
open Go.RowKit
set_option maxRecDepth 8000
set_option linter.unusedSimpArgs false
set_option linter.unusedVariables false

theorem step_of {c : Cp} {m : List Sg} {g : Sg} {i : Ins} (hk : kn m c.seg = g) (hl : c.hl = false) (his : g.is = true) (hmd : hasM g.md 4 = true) (hx : mayX g.rg c.ring = true) (hin : inG g c.off) (hw : wAt g c.off = insW i) (hi : insE i = 0) : stepC c m = opC c m i := by
  have hd := dec_enc hi
  have hf : fetE c m = 0 := by
    unfold fetE
    rw [hk, if_neg (by rw [his]; decide), if_neg (by rw [hmd, hx]; simp), if_neg (by simpa using hin), hw, if_neg (by rw [hd.1]; simp)]
  have hf2 : fetI c m = i := by
    unfold fetI
    rw [hk, hw, hd.2]
  unfold stepC
  rw [if_neg (by rw [hl]; decide), if_neg (by rw [hf]; simp), hf2]
/-- A fault where it is fetched. -/
theorem step_bound {c : Cp} {m : List Sg} {g : Sg} (hk : kn m c.seg = g) (hl : c.hl = false) (his : g.is = true) (hmd : hasM g.md 4 = true) (hx : mayX g.rg c.ring = true) (hin : ¬ inG g c.off) : stepC c m = flt 35 := by
  have hf : fetE c m = 35 := by
    unfold fetE
    rw [hk, if_neg (by rw [his]; decide), if_neg (by rw [hmd, hx]; simp), if_pos hin]
  unfold stepC
  rw [if_neg (by rw [hl]; decide), if_pos (by rw [hf]; decide), hf]
theorem one_ok {is : List Ins} {more : List Int} (h : ∀ x ∈ more, fit64 x) (h2 : is.length + more.length ≤ 1000) : (oneG is more).Ok := by
  refine ⟨fun _ => by show OkR ⟨4, 4, 4, 0⟩; refine ⟨?_, ?_, ?_, ?_, ?_, ?_⟩ <;> decide, fun x hx => ?_, by simpa [oneG] using h2⟩
  rcases List.mem_append.1 hx with q | q
  · obtain ⟨i, _, rfl⟩ := List.mem_map.1 q
    exact insW_fit i
  · exact h x q
/-- A memory of one segment, made of a row of segments. -/
theorem MemO.of {W : World} {x : PG} {L : Nat} {a : Option Addr} {cap bm : Nat} (hg : x.g.Ok) (ho : OwnR 2 1 wcl W L x.v x.g.ws) (hb : BlkL bm (memCs (.slice a 1 cap) false 0 0 0 0) W) (hr : RowG W a [x]) : MemO bm a cap [x] false 0 0 0 0 W := by
  obtain ⟨a1, c1, hv, -, hn, -⟩ := ho.slice wd_okC.len
  have hv' : Value.slice x.wa x.g.ws.length x.wc = .slice a1 x.g.ws.length c1 := hv
  injection hv' with e1 e2 e3
  refine ⟨⟨by simp, fun z hz => by rw [List.mem_singleton.1 hz]; exact hg, fun z hz => by rw [List.mem_singleton.1 hz, e1, e3]; exact hn⟩, ⟨by decide, by decide⟩, hb, hr⟩
theorem StP.okE {bm : Nat} {sl : Value} {n : Int} {t : Cp} {w w' : World} {e : Ending} (h : StP bm sl n (okC t) w e w') : ∃ v', e = .returned (.tuple #[.agg (stCs t v').toArray, .int .i64 0, .bool false, .int .i64 0]) ∧ OwnR 84 3 frc w' w.heap.size v' t.st ∧ Below w.heap.size w w' := h
theorem StP.fltE {bm : Nat} {sl : Value} {n : Int} {E : Int} {w w' : World} {e : Ending} (h : StP bm sl n (flt E) w e w') : ∃ v', e = .returned (.tuple #[.agg (stCs zeroC v').toArray, .int .i64 0, .bool false, .int .i64 E]) ∧ OwnR 84 3 frc w' w.heap.size v' [] ∧ Below w.heap.size w w' := h
theorem own_at {W : World} {x : PG} {L : Nat} (ho : OwnR 2 1 wcl W L x.v x.g.ws) : x.At W := by
  obtain ⟨a1, c1, hv, -, hn, hr⟩ := ho.slice wd_okC.len
  have hv' : Value.slice x.wa x.g.ws.length x.wc = .slice a1 x.g.ws.length c1 := hv
  injection hv' with e1 e2 e3
  unfold PG.At
  rw [e1]
  exact hr
end Go.Proofs.Ytinibccphecdfaa

/-! ARGUMENTS OPENED, FOR WHATEVER TYPES: a struct's fields, a row of elements, each read by a reader of its own. -/
namespace Go.Proofs.Ytinibccphecdfaa
open Go.ChangeShapes Go.WideShapes Go.ChangeAt Go.RowKit
set_option maxRecDepth 8000
set_option linter.unusedVariables false
set_option linter.unusedSimpArgs false

theorem own : ownKnob Try.prog.godebug = none := by kernel_rfl
theorem laidOut : laidOutB Try.prog = true := by kernel_rfl
theorem int_fits {n : Int} (h : (Lit.int .i64 n).wf = true) : -9223372036854775808 ≤ n ∧ n ≤ 9223372036854775807 := by
  simpa [Lit.wf, IntKind.min, IntKind.max, IntKind.bits, IntKind.signed] using h
theorem nat_u64 {n : Int} (h : (Lit.int .u64 n).wf = true) : ∃ k : Nat, n = (k : Int) ∧ k < 18446744073709551616 := by
  have : 0 ≤ n ∧ n ≤ 18446744073709551615 := by simpa [Lit.wf, IntKind.min, IntKind.max, IntKind.bits, IntKind.signed] using h
  exact ⟨n.toNat, by omega, by omega⟩
theorem nat_u8 {n : Int} (h : (Lit.int .u8 n).wf = true) : ∃ k : Nat, n = (k : Int) ∧ k < 256 := by
  have : 0 ≤ n ∧ n ≤ 255 := by simpa [Lit.wf, IntKind.min, IntKind.max, IntKind.bits, IntKind.signed] using h
  exact ⟨n.toNat, by omega, by omega⟩
section
variable {H : Type} {enc : TypeId × Value → H} {W : World} {base : Nat} {sp : Nat → Bool} {held : Bool}
/-- What a reading of a type tells of its cells. -/
def Reads (enc : TypeId × Value → H) (W : World) (base : Nat) (sp : Nat → Bool) (held : Bool) (t : TypeId) (p : List Value → Prop) : Prop := ∀ (n : Nat) (cs : List Value) (x : DataW H × List MemPlace), DataW.trod enc Try.prog W base sp held n t cs = some x → p cs
theorem reads_int {t : TypeId} {k : IntKind} (ht : Try.prog.underlying t = some (.int k)) : Reads enc W base sp held t fun cs => ∃ n, cs = [.int k n] ∧ (Lit.int k n).wf = true := fun n cs x h => by
  obtain ⟨m, rfl, _, hw⟩ := DataW.trod_int ht h
  exact ⟨m, rfl, hw⟩
theorem reads_bool {t : TypeId} (ht : Try.prog.underlying t = some .bool) : Reads enc W base sp held t fun cs => ∃ b, cs = [.bool b] := fun n cs x h => by
  obtain ⟨b, rfl, _⟩ := DataW.trod_bool ht h
  exact ⟨b, rfl⟩
theorem reads_string {t : TypeId} (ht : Try.prog.underlying t = some .string) : Reads enc W base sp held t fun cs => ∃ s : ByteArray, cs = [.string s] ∧ s.size ≤ 9223372036854775807 := fun n cs x h => by
  obtain ⟨s, rfl, _, hs⟩ := DataW.trod_string ht h
  exact ⟨s, rfl, by simpa [maxLen] using hs⟩
/-- A field of a struct. -/
theorem read_field {t ty : TypeId} {i off sz : Nat} {p : List Value → Prop} (ht : Try.prog.underlying t = some (.struct (Try.prog.fieldsOf t))) (hf : ((Try.prog.fieldsOf t)[i]?).map (fun f => (f.type, f.offset)) = some (ty, off)) (hc : Try.prog.cellsOf ty = sz) (hp : Reads enc W base sp held ty p) {n : Nat} {cs : List Value} {x : DataW H × List MemPlace} (h : DataW.trod enc Try.prog W base sp held n t cs = some x) : p ((cs.drop off).take sz) := by
  obtain ⟨xs, m, _, _, _, hlen, hg⟩ := DataW.trod_struct ht h
  cases hfi : (Try.prog.fieldsOf t)[i]? with
  | none => rw [hfi] at hf; cases hf
  | some f =>
    rw [hfi] at hf
    have e : (f.type, f.offset) = (ty, off) := by simpa using hf
    have e1 : f.type = ty := congrArg Prod.fst e
    have e2 : f.offset = off := congrArg Prod.snd e
    have hh := hg i f hfi
    have hi : i < xs.length := by
      have := (Array.getElem?_eq_some_iff.1 hfi).1
      omega
    rw [List.getElem?_eq_getElem hi, e1, e2, hc] at hh
    exact hp _ _ _ hh
theorem struct_len {t : TypeId} {sz : Nat} (ht : Try.prog.underlying t = some (.struct (Try.prog.fieldsOf t))) (hc : Try.prog.cellsOf t = sz) {n : Nat} {cs : List Value} {x : DataW H × List MemPlace} (h : DataW.trod enc Try.prog W base sp held n t cs = some x) : cs.length = sz := by
  obtain ⟨xs, m, _, _, hl, _⟩ := DataW.trod_struct ht h
  rw [hl, hc]
theorem pick_all {α : Type} [Inhabited α] {len : Nat} {p : Nat → α → Prop} (h : ∀ i, i < len → ∃ g, p i g) : ∃ l : List α, l.length = len ∧ ∀ j g, l[j]? = some g → p j g := by
  have h' : ∀ i, ∃ g, i < len → p i g := fun i => by
    by_cases hi : i < len
    · obtain ⟨g, hg⟩ := h i hi; exact ⟨g, fun _ => hg⟩
    · exact ⟨default, fun k => absurd k hi⟩
  obtain ⟨f, hf⟩ := Classical.axiomOfChoice h'
  refine ⟨(List.range len).map f, by simp, fun j g hg => ?_⟩
  have hj : j < len := by
    have := (List.getElem?_eq_some_iff.1 hg).1
    simpa using this
  simp [List.getElem?_range hj] at hg
  subst hg
  exact hf j hj
/-- A row of elements. -/
theorem open_rows {α : Type} [Inhabited α] {t e : TypeId} {sz : Nat} {f : α → List Value} {q : α → Prop} (ht : Try.prog.underlying t = some (.slice e)) (hc : Try.prog.cellsOf e = sz) (hp : Reads enc W 0 (fun _ => true) true e fun cs => ∃ g, cs = f g ∧ q g) {n : Nat} {a : Option Addr} {len cap : Nat} {x : DataW H × List MemPlace} (h : DataW.trod enc Try.prog W 0 (fun _ => true) true n t [.slice a len cap] = some x) :
    ∃ l : List α, l.length = len ∧ (∀ j g, l[j]? = some g → ∃ y, a = some y ∧ (∀ i, i < sz → W.cell? (y.add (j * sz + i)) = (f g)[i]?)) ∧ (∀ g ∈ l, q g) ∧ (a = none → cap = 0) ∧ len ≤ cap ∧ cap ≤ 9223372036854775807 := by
  rcases Go.Deep.open_slice ht h with ⟨hcs, _⟩ | ⟨ad, l, c, m, n', Dd, Pl, hcs, _, hl, hm, hmm, _, hx⟩
  · simp at hcs
    obtain ⟨rfl, rfl, rfl⟩ := hcs
    exact ⟨[], rfl, fun j g hg => by simp at hg, by simp, fun _ => rfl, Nat.le_refl _, by omega⟩
  · simp at hcs
    obtain ⟨rfl, rfl, rfl⟩ := hcs
    simp only [if_true] at hmm
    have each : ∀ i, i < len → ∃ g : α, (∀ k, k < sz → W.cell? (ad.add (i * sz + k)) = (f g)[k]?) ∧ q g := fun i hi => by
      obtain ⟨cs', h2, h3⟩ := hx i (by omega)
      rw [hc] at h2
      obtain ⟨_, hlen, hcell⟩ := World.cells?_some h2
      obtain ⟨g, rfl, hq⟩ := hp _ _ _ h3
      refine ⟨g, fun k hk => ?_, hq⟩
      have e0 := hcell k (by omega)
      rw [Go.Deep.add_add] at e0
      rw [e0]
    obtain ⟨L, hL, hpp⟩ := pick_all each
    refine ⟨L, hL, fun j g hg => ⟨ad, rfl, (hpp j g hg).1⟩, fun g hg => ?_, fun h => (by cases h), hl, by simpa [maxLen] using hm⟩
    obtain ⟨j, hj, rfl⟩ := List.getElem_of_mem hg
    exact (hpp j L[j] (List.getElem?_eq_getElem hj)).2
end
end Go.Proofs.Ytinibccphecdfaa
