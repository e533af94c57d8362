/-
  CpuFloats, walked. Written by mk_cpufloats.py.
-/
import Derived.Test.YtinibccphecdfaaPt4
namespace Go.Proofs.Ytinibccphecdfaa
open Go.RowKit
set_option maxRecDepth 8000
set_option linter.unusedSimpArgs false
set_option linter.unusedVariables false

theorem flo_step (a b op : Int) (h0 : 7 ≤ op) (h1 : op ≤ 11) : stepC { newC with a := a } [oneG [⟨op, 0, 1⟩] [b]] = okC { newC with a := arC op a b, off := 1 } := by
  have hi : insE ⟨op, 0, 1⟩ = 0 := insE_zero.2 ⟨⟨by show 0 ≤ op; omega, by show op ≤ 22; omega⟩, by show (0 : Int) ≤ 0; decide, by show (0 : Int) ≤ 3; decide, by show (-2147483648 : Int) ≤ 1; decide, by show (1 : Int) ≤ 2147483647; decide⟩
  rw [step_of (c := { newC with a := a }) (m := [oneG [⟨op, 0, 1⟩] [b]]) (g := oneG [⟨op, 0, 1⟩] [b]) (i := ⟨op, 0, 1⟩) rfl rfl rfl (show hasM 7 4 = true by decide +kernel) (show mayX ⟨4, 4, 4, 0⟩ 4 = true by decide +kernel) ⟨by show (0 : Int) ≤ 0; decide, by show (0 : Int) < ((2 : Nat) : Int); decide⟩ rfl hi]
  have hr : rdE { newC with a := a } [oneG [⟨op, 0, 1⟩] [b]] ⟨op, 0, 1⟩ = 0 := by
    show (if (oneG [⟨op, 0, 1⟩] [b]).is = false then 35 else if hasM 7 1 = false ∨ mayR ⟨4, 4, 4, 0⟩ 4 = false then 31 else if ¬ inG (oneG [⟨op, 0, 1⟩] [b]) 1 then 35 else 0) = 0
    rw [if_neg (by show ¬ true = false; decide), if_neg (by rw [show hasM 7 1 = true by decide +kernel, show mayR ⟨4, 4, 4, 0⟩ 4 = true by decide +kernel]; simp), if_neg (fun q => q ⟨by decide, by show (1 : Int) < ((2 : Nat) : Int); decide⟩)]
  unfold opC
  rw [if_neg (by show ¬ op = 0; omega), if_pos (by show op = 1 ∨ 4 ≤ op ∧ op ≤ 11; omega), if_neg (by rw [hr]; simp)]
  rfl
set_option maxRecDepth 8000 in
set_option maxHeartbeats 4000000 in
theorem cpuFloats0 (a b op : Int) (hk : op % 5 = 0) (ha : fit64 a) (hb : fit64 b) (w : World) :
    Calls Try.prog 7 #[.int .i64 a, .int .i64 b, .int .i64 op] w fun e w' => e = .returned (.bool true) ∧ Below w.heap.size w w' := by
  have hundS := Try.underlying33
  have hszS : (Try.prog.info? 33).map (·.size) = some 18 := by kernel_rfl
  have hmi : ∀ (v : Value) (w : World), (Instr.makeInterface 43 v).run Try.prog w = .ok (.iface 43 v) w := fun _ _ => rfl
  have kw := fun W : World => w16_any op 5 (by decide) (by decide) W
  simp only [hk] at kw
  have hst := flo_step a b 7 (by decide) (by decide)
  have hax : arC 7 a b = fop .add a b := rfl
  rw [hax] at hst
  clear hk
  have kf1 : ∀ W : World, Calls Try.prog 22 #[.int .i64 a, .int .i64 b] W fun e w' => e = .returned (.int .i64 (fop .add a b)) ∧ Below W.heap.size W w' := fun W => (donjonref1_FAdd_any a b W).mono fun e w' h => ⟨h.1, by obtain ⟨n, q⟩ := h.2; rw [q]; exact below_drewN W n⟩
  have kf2 : ∀ W : World, Calls Try.prog 23 #[.int .i64 a, .int .i64 b] W fun e w' => e = .returned (.int .i64 (fop .sub a b)) ∧ Below W.heap.size W w' := fun W => (donjonref1_FSub_any a b W).mono fun e w' h => ⟨h.1, by obtain ⟨n, q⟩ := h.2; rw [q]; exact below_drewN W n⟩
  have kf3 : ∀ W : World, Calls Try.prog 24 #[.int .i64 a, .int .i64 b] W fun e w' => e = .returned (.int .i64 (fop .mul a b)) ∧ Below W.heap.size W w' := fun W => (donjonref1_FMul_any a b W).mono fun e w' h => ⟨h.1, by obtain ⟨n, q⟩ := h.2; rw [q]; exact below_drewN W n⟩
  have kf4 : ∀ W : World, Calls Try.prog 25 #[.int .i64 a, .int .i64 b] W fun e w' => e = .returned (.int .i64 (fop .quo a b)) ∧ Below W.heap.size W w' := fun W => (donjonref1_FDiv_any a b W).mono fun e w' h => ⟨h.1, by obtain ⟨n, q⟩ := h.2; rw [q]; exact below_drewN W n⟩
  have kf5 := fun W : World => donjonref1_FLess_any a b W
  generalize fop .add a b = r1 at *
  generalize fop .sub a b = r2 at *
  generalize fop .mul a b = r3 at *
  generalize fop .quo a b = r4 at *
  generalize less a b = r5 at *
  go_enter Try.func7, Try.ntmps7
  go_wp2_with fail
  refine (ck_any w).mono ?_
  rintro e W1 ⟨rfl, hB1⟩
  go_wp2_with fail
  refine (kw W1).mono ?_
  rintro e W2 ⟨rfl, hw2⟩
  rw [hw2]
  clear kw hw2 W2
  have hbi := alloc_below W1 (.cells (ins3 ⟨7, 0, 1⟩).toArray 64)
  have hri := row_list (f := ins3) (sz := 3) (fun _ => rfl) W1 [⟨7, 0, 1⟩] #[.int .i64 7, .int .i64 0, .int .i64 1] rfl 64
  have hbj := alloc_below (W1.alloc (.cells (ins3 ⟨7, 0, 1⟩).toArray 64)) (.cells #[.int .i64 b] 2)
  have hrj := row_list (f := wcl) (sz := 1) (fun _ => rfl) (W1.alloc (.cells (ins3 ⟨7, 0, 1⟩).toArray 64)) [b] #[.int .i64 b] rfl 2
  have ko := cone_any [⟨7, 0, 1⟩] [b] (some ⟨W1.heap.size, 0, none⟩) (some ⟨(W1.alloc (.cells (ins3 ⟨7, 0, 1⟩).toArray 64)).heap.size, 0, none⟩) 1 1 (by show 1 ≤ 100; decide) (by show 1 ≤ 100; decide) (fun q => by cases q) _ (hri.below in_okC.len hbj) hrj
  have hB3 := Below.then (Below.then hB1 hbi) hbj
  rw [show (W1.alloc (.cells (ins3 ⟨7, 0, 1⟩).toArray 64)).heap.size = W1.heap.size + 1 by simp] at ko
  clear hri hrj hbi hbj
  go_wp2_with fail
  refine ko.mono ?_
  rintro e W4 ⟨x, hxg, rfl, hxo, hb4⟩
  have hB4 := Below.then hB3 hb4
  have hxo4 := hxo
  clear ko hB3 hb4
  have hrx := row_list pg_len W4 [x] x.cs.toArray (by simp) 57
  have hbx := alloc_below W4 (.cells x.cs.toArray 57)
  have hB5 := Below.then hB4 hbx
  have hxa := (own_at hxo).below hbx
  have hxo5 := hxo.below hbx
  have hG5 : RowG (W4.alloc (.cells x.cs.toArray 57)) (some ⟨W4.heap.size, 0, none⟩) [x] := ⟨hrx, fun z hz => by rw [List.mem_singleton.1 hz]; exact hxa⟩
  go_upto_region 5 with (first | (refine wpList_build1 pg_okC (by decide) rfl _ rfl x.cs rfl rfl ?_) | fail)
  generalize W4.heap.size = gs at *
  clear hrx hbx hxa hxo4 hB4
  generalize W4.alloc (.cells x.cs.toArray 57) = W5 at *
  go_wp2_with fail
  refine (cnew_any W5).mono ?_
  rintro e W6 ⟨rfl, hb6⟩
  obtain ⟨W7, hW7, hth7, hs7, hb7⟩ := new_stC W6 newC rfl nilS
  have hB7 := Below.then (Below.then hB5 hb6) hb7
  have hG7 := (hG5.below hb6).below hb7
  have hxo7 := (hxo5.below hb6).below hb7
  have y3 := hs7.a
  have yf := (hs7.blk.1 3 _ rfl).2
  have hs8 : StAt W6.heap.size { newC with a := a } nilS (W7.setCell ⟨W6.heap.size, 3, none⟩ (.int .i64 a)) := by
    have h1 := hs7.blk.1.set 3 (.int .i64 a) (by show 3 < 18; decide)
    exact ⟨rfl, h1, h1.lt rfl⟩
  have hl6 := (Below.then hB5 hb6).size
  have hB8 := hB7.setCell (p := ⟨W6.heap.size, 3, none⟩) hl6 (.int .i64 a)
  have hb8 : Below W6.heap.size W6 (W7.setCell ⟨W6.heap.size, 3, none⟩ (.int .i64 a)) := hb7.setCell (p := ⟨W6.heap.size, 3, none⟩) (Nat.le_refl _) (.int .i64 a)
  have hG8 := (hG5.below hb6).below hb8
  have hxo8 := (hxo5.below hb6).below hb8
  have hone7 : ∀ u ∈ stCs newC nilS, u.oneCell' = true := st_one _ _ rfl
  have hsz7 : (Try.prog.info? 33).map (·.size) = some (stCs newC nilS).length := by kernel_rfl
  obtain ⟨Y, hY⟩ : ∃ Y, stCs newC nilS = Y := ⟨_, rfl⟩
  rw [hY] at hW7 hth7 hone7 hsz7
  have hYv : Aside (.agg (stCs newC nilS).toArray = Value.agg Y.toArray) := by rw [hY]; exact rfl
  clear hY hG5 hxo5 hB5 hb6 hb7 hb8 hG7 hxo7 hB7 hs7
  go_upto_region 7 with (first | (refine wpList_store_row rfl _ _ rfl W6.heap.size rfl Y hYv.out hth7 hsz7 hone7 hW7 ?_) | fail)
  clear hW7 hth7 hone7 hsz7 hYv y3 yf hl6
  generalize W7.setCell ⟨W6.heap.size, 3, none⟩ (.int .i64 a) = W8 at *
  generalize W6.heap.size = bs at *
  have hbb := alloc_below W8 (.cells (memCs (.slice (some ⟨gs, 0, none⟩) 1 1) false 0 0 0 0).toArray 47)
  have hbm := blkl_alloc W8 (memCs (.slice (some ⟨gs, 0, none⟩) 1 1) false 0 0 0 0).toArray 47
  have hok : x.g.Ok := by rw [hxg]; exact one_ok (fun z hz => by rw [List.mem_singleton.1 hz]; exact hb) (by show 1 + 1 ≤ 1000; decide)
  have hM9 := MemO.of hok (hxo8.below hbb) hbm (hG8.below hbb)
  have hB9 := Below.then hB8 hbb
  have ks := cstepV { newC with a := a } ⟨rfl, newC_ok.pp, newC_ok.ring, ha, newC_ok.st, newC_ok.sr⟩ nilS hM9 (SV.nil _) (okC { newC with a := r1, off := 1 }) (by rw [show [x].map (·.g) = [oneG [⟨7, 0, 1⟩] [b]] by simp [hxg]]; exact hst)
  have hrs := hs8.blk.range
  have hszY : (Try.prog.info? 33).map (·.size) = some (stCs { newC with a := a } nilS).length := hszS
  obtain ⟨Y, hY⟩ : ∃ Y, stCs { newC with a := a } nilS = Y := ⟨_, rfl⟩
  rw [hY] at hrs ks hszY
  clear hY hM9 hB8 hG8 hxo8 hs8 hbm hbb hst hok hxg
  replace ks : Calls Try.prog 17 #[.agg Y.toArray, .iface 43 (.pointer (some ⟨W8.heap.size, 0, none⟩))] (W8.alloc (.cells #[.slice (some ⟨gs, 0, none⟩) 1 1, .bool false, .int .i64 0, .int .i64 0, .int .i64 0, .int .i64 0] 47)) (StP W8.heap.size (.slice (some ⟨gs, 0, none⟩) 1 1) 0 (okC { newC with a := r1, off := 1 }) (W8.alloc (.cells #[.slice (some ⟨gs, 0, none⟩) 1 1, .bool false, .int .i64 0, .int .i64 0, .int .i64 0, .int .i64 0] 47))) := ks
  replace hB9 : Below w.heap.size w (W8.alloc (.cells #[.slice (some ⟨gs, 0, none⟩) 1 1, .bool false, .int .i64 0, .int .i64 0, .int .i64 0, .int .i64 0] 47)) := hB9
  go_wp2_with (first | (refine wpList_load_row rfl _ rfl bs rfl Y hrs hundS rfl hszY ?_) | fail)
  refine ks.mono ?_
  rintro e WA hP
  obtain ⟨vA, rfl, hoA, hbA⟩ := hP.okE
  have hBA := Below.then hB9 hbA
  obtain ⟨WB, hWB, hthB, hsB, hbB⟩ := new_stC WA { newC with a := r1, off := 1 } rfl vA
  have hBB := Below.then hBA hbB
  have honeB := st_one { newC with a := r1, off := 1 } vA (SV.own hoA).one
  have hlB : (stCs { newC with a := r1, off := 1 } vA).length = 18 := st_len rfl
  have z3 := hsB.a
  have z1 := hsB.off
  obtain ⟨Z, hZ⟩ : ∃ Z, stCs { newC with a := r1, off := 1 } vA = Z := ⟨_, rfl⟩
  have hZv : Aside (.agg (stCs { newC with a := r1, off := 1 } vA).toArray = Value.agg Z.toArray) := by
    show _ = _
    rw [hZ]
  rw [hZ] at hWB hthB honeB hlB
  have hszZ : (Try.prog.info? 33).map (·.size) = some Z.length := by rw [hlB]; exact hszS
  clear ks hrs hszY hB9 hbA hBA hoA hbB hZ hlB
  go_wp2_with (first | (refine wpList_store_row rfl _ _ rfl WA.heap.size rfl Z hZv.out hthB hszZ honeB hWB ?_) | fail)
  clear hWB hthB honeB hszZ hZv
  refine (kf1 WB).mono ?_
  rintro e C1 ⟨rfl, d1⟩
  go_wp2_with fail
  refine (kf2 C1).mono ?_
  rintro e C2 ⟨rfl, d2⟩
  go_wp2_with fail
  refine (kf3 C2).mono ?_
  rintro e C3 ⟨rfl, d3⟩
  go_wp2_with fail
  refine (kf4 C3).mono ?_
  rintro e C ⟨rfl, d4⟩
  go_wp2_with fail
  refine (kf5 C).mono ?_
  rintro e C5 ⟨rfl, hc5⟩
  rw [hc5]
  have hd := Below.then (Below.then (Below.then d1 d2) d3) d4
  have hsC := hsB.keep hd
  have hBC := Below.then hBB hd
  clear z3 z1 hsB hBB hd d1 d2 d3 d4 kf1 kf2 kf3 kf4 kf5 hc5 C5
  have hbl := alloc_below C (.cells #[.int .i64 r1, .int .i64 r2, .int .i64 r3, .int .i64 r4, .int .i64 r5] 2)
  have hsD := hsC.keep hbl
  have hBD := Below.then hBC hbl
  have z3 := hsD.a
  have z1 := hsD.off
  clear hsC hsD hbl hBC
  go_wp2_with fail
  go_ret
  exact ⟨rfl, hBD⟩
set_option maxRecDepth 8000 in
set_option maxHeartbeats 4000000 in
theorem cpuFloats1 (a b op : Int) (hk : op % 5 = 1) (ha : fit64 a) (hb : fit64 b) (w : World) :
    Calls Try.prog 7 #[.int .i64 a, .int .i64 b, .int .i64 op] w fun e w' => e = .returned (.bool true) ∧ Below w.heap.size w w' := by
  have hundS := Try.underlying33
  have hszS : (Try.prog.info? 33).map (·.size) = some 18 := by kernel_rfl
  have hmi : ∀ (v : Value) (w : World), (Instr.makeInterface 43 v).run Try.prog w = .ok (.iface 43 v) w := fun _ _ => rfl
  have kw := fun W : World => w16_any op 5 (by decide) (by decide) W
  simp only [hk] at kw
  have hst := flo_step a b 8 (by decide) (by decide)
  have hax : arC 8 a b = fop .sub a b := rfl
  rw [hax] at hst
  clear hk
  have kf1 : ∀ W : World, Calls Try.prog 22 #[.int .i64 a, .int .i64 b] W fun e w' => e = .returned (.int .i64 (fop .add a b)) ∧ Below W.heap.size W w' := fun W => (donjonref1_FAdd_any a b W).mono fun e w' h => ⟨h.1, by obtain ⟨n, q⟩ := h.2; rw [q]; exact below_drewN W n⟩
  have kf2 : ∀ W : World, Calls Try.prog 23 #[.int .i64 a, .int .i64 b] W fun e w' => e = .returned (.int .i64 (fop .sub a b)) ∧ Below W.heap.size W w' := fun W => (donjonref1_FSub_any a b W).mono fun e w' h => ⟨h.1, by obtain ⟨n, q⟩ := h.2; rw [q]; exact below_drewN W n⟩
  have kf3 : ∀ W : World, Calls Try.prog 24 #[.int .i64 a, .int .i64 b] W fun e w' => e = .returned (.int .i64 (fop .mul a b)) ∧ Below W.heap.size W w' := fun W => (donjonref1_FMul_any a b W).mono fun e w' h => ⟨h.1, by obtain ⟨n, q⟩ := h.2; rw [q]; exact below_drewN W n⟩
  have kf4 : ∀ W : World, Calls Try.prog 25 #[.int .i64 a, .int .i64 b] W fun e w' => e = .returned (.int .i64 (fop .quo a b)) ∧ Below W.heap.size W w' := fun W => (donjonref1_FDiv_any a b W).mono fun e w' h => ⟨h.1, by obtain ⟨n, q⟩ := h.2; rw [q]; exact below_drewN W n⟩
  have kf5 := fun W : World => donjonref1_FLess_any a b W
  generalize fop .add a b = r1 at *
  generalize fop .sub a b = r2 at *
  generalize fop .mul a b = r3 at *
  generalize fop .quo a b = r4 at *
  generalize less a b = r5 at *
  go_enter Try.func7, Try.ntmps7
  go_wp2_with fail
  refine (ck_any w).mono ?_
  rintro e W1 ⟨rfl, hB1⟩
  go_wp2_with fail
  refine (kw W1).mono ?_
  rintro e W2 ⟨rfl, hw2⟩
  rw [hw2]
  clear kw hw2 W2
  have hbi := alloc_below W1 (.cells (ins3 ⟨8, 0, 1⟩).toArray 64)
  have hri := row_list (f := ins3) (sz := 3) (fun _ => rfl) W1 [⟨8, 0, 1⟩] #[.int .i64 8, .int .i64 0, .int .i64 1] rfl 64
  have hbj := alloc_below (W1.alloc (.cells (ins3 ⟨8, 0, 1⟩).toArray 64)) (.cells #[.int .i64 b] 2)
  have hrj := row_list (f := wcl) (sz := 1) (fun _ => rfl) (W1.alloc (.cells (ins3 ⟨8, 0, 1⟩).toArray 64)) [b] #[.int .i64 b] rfl 2
  have ko := cone_any [⟨8, 0, 1⟩] [b] (some ⟨W1.heap.size, 0, none⟩) (some ⟨(W1.alloc (.cells (ins3 ⟨8, 0, 1⟩).toArray 64)).heap.size, 0, none⟩) 1 1 (by show 1 ≤ 100; decide) (by show 1 ≤ 100; decide) (fun q => by cases q) _ (hri.below in_okC.len hbj) hrj
  have hB3 := Below.then (Below.then hB1 hbi) hbj
  rw [show (W1.alloc (.cells (ins3 ⟨8, 0, 1⟩).toArray 64)).heap.size = W1.heap.size + 1 by simp] at ko
  clear hri hrj hbi hbj
  go_wp2_with fail
  refine ko.mono ?_
  rintro e W4 ⟨x, hxg, rfl, hxo, hb4⟩
  have hB4 := Below.then hB3 hb4
  have hxo4 := hxo
  clear ko hB3 hb4
  have hrx := row_list pg_len W4 [x] x.cs.toArray (by simp) 57
  have hbx := alloc_below W4 (.cells x.cs.toArray 57)
  have hB5 := Below.then hB4 hbx
  have hxa := (own_at hxo).below hbx
  have hxo5 := hxo.below hbx
  have hG5 : RowG (W4.alloc (.cells x.cs.toArray 57)) (some ⟨W4.heap.size, 0, none⟩) [x] := ⟨hrx, fun z hz => by rw [List.mem_singleton.1 hz]; exact hxa⟩
  go_upto_region 5 with (first | (refine wpList_build1 pg_okC (by decide) rfl _ rfl x.cs rfl rfl ?_) | fail)
  generalize W4.heap.size = gs at *
  clear hrx hbx hxa hxo4 hB4
  generalize W4.alloc (.cells x.cs.toArray 57) = W5 at *
  go_wp2_with fail
  refine (cnew_any W5).mono ?_
  rintro e W6 ⟨rfl, hb6⟩
  obtain ⟨W7, hW7, hth7, hs7, hb7⟩ := new_stC W6 newC rfl nilS
  have hB7 := Below.then (Below.then hB5 hb6) hb7
  have hG7 := (hG5.below hb6).below hb7
  have hxo7 := (hxo5.below hb6).below hb7
  have y3 := hs7.a
  have yf := (hs7.blk.1 3 _ rfl).2
  have hs8 : StAt W6.heap.size { newC with a := a } nilS (W7.setCell ⟨W6.heap.size, 3, none⟩ (.int .i64 a)) := by
    have h1 := hs7.blk.1.set 3 (.int .i64 a) (by show 3 < 18; decide)
    exact ⟨rfl, h1, h1.lt rfl⟩
  have hl6 := (Below.then hB5 hb6).size
  have hB8 := hB7.setCell (p := ⟨W6.heap.size, 3, none⟩) hl6 (.int .i64 a)
  have hb8 : Below W6.heap.size W6 (W7.setCell ⟨W6.heap.size, 3, none⟩ (.int .i64 a)) := hb7.setCell (p := ⟨W6.heap.size, 3, none⟩) (Nat.le_refl _) (.int .i64 a)
  have hG8 := (hG5.below hb6).below hb8
  have hxo8 := (hxo5.below hb6).below hb8
  have hone7 : ∀ u ∈ stCs newC nilS, u.oneCell' = true := st_one _ _ rfl
  have hsz7 : (Try.prog.info? 33).map (·.size) = some (stCs newC nilS).length := by kernel_rfl
  obtain ⟨Y, hY⟩ : ∃ Y, stCs newC nilS = Y := ⟨_, rfl⟩
  rw [hY] at hW7 hth7 hone7 hsz7
  have hYv : Aside (.agg (stCs newC nilS).toArray = Value.agg Y.toArray) := by rw [hY]; exact rfl
  clear hY hG5 hxo5 hB5 hb6 hb7 hb8 hG7 hxo7 hB7 hs7
  go_upto_region 7 with (first | (refine wpList_store_row rfl _ _ rfl W6.heap.size rfl Y hYv.out hth7 hsz7 hone7 hW7 ?_) | fail)
  clear hW7 hth7 hone7 hsz7 hYv y3 yf hl6
  generalize W7.setCell ⟨W6.heap.size, 3, none⟩ (.int .i64 a) = W8 at *
  generalize W6.heap.size = bs at *
  have hbb := alloc_below W8 (.cells (memCs (.slice (some ⟨gs, 0, none⟩) 1 1) false 0 0 0 0).toArray 47)
  have hbm := blkl_alloc W8 (memCs (.slice (some ⟨gs, 0, none⟩) 1 1) false 0 0 0 0).toArray 47
  have hok : x.g.Ok := by rw [hxg]; exact one_ok (fun z hz => by rw [List.mem_singleton.1 hz]; exact hb) (by show 1 + 1 ≤ 1000; decide)
  have hM9 := MemO.of hok (hxo8.below hbb) hbm (hG8.below hbb)
  have hB9 := Below.then hB8 hbb
  have ks := cstepV { newC with a := a } ⟨rfl, newC_ok.pp, newC_ok.ring, ha, newC_ok.st, newC_ok.sr⟩ nilS hM9 (SV.nil _) (okC { newC with a := r2, off := 1 }) (by rw [show [x].map (·.g) = [oneG [⟨8, 0, 1⟩] [b]] by simp [hxg]]; exact hst)
  have hrs := hs8.blk.range
  have hszY : (Try.prog.info? 33).map (·.size) = some (stCs { newC with a := a } nilS).length := hszS
  obtain ⟨Y, hY⟩ : ∃ Y, stCs { newC with a := a } nilS = Y := ⟨_, rfl⟩
  rw [hY] at hrs ks hszY
  clear hY hM9 hB8 hG8 hxo8 hs8 hbm hbb hst hok hxg
  replace ks : Calls Try.prog 17 #[.agg Y.toArray, .iface 43 (.pointer (some ⟨W8.heap.size, 0, none⟩))] (W8.alloc (.cells #[.slice (some ⟨gs, 0, none⟩) 1 1, .bool false, .int .i64 0, .int .i64 0, .int .i64 0, .int .i64 0] 47)) (StP W8.heap.size (.slice (some ⟨gs, 0, none⟩) 1 1) 0 (okC { newC with a := r2, off := 1 }) (W8.alloc (.cells #[.slice (some ⟨gs, 0, none⟩) 1 1, .bool false, .int .i64 0, .int .i64 0, .int .i64 0, .int .i64 0] 47))) := ks
  replace hB9 : Below w.heap.size w (W8.alloc (.cells #[.slice (some ⟨gs, 0, none⟩) 1 1, .bool false, .int .i64 0, .int .i64 0, .int .i64 0, .int .i64 0] 47)) := hB9
  go_wp2_with (first | (refine wpList_load_row rfl _ rfl bs rfl Y hrs hundS rfl hszY ?_) | fail)
  refine ks.mono ?_
  rintro e WA hP
  obtain ⟨vA, rfl, hoA, hbA⟩ := hP.okE
  have hBA := Below.then hB9 hbA
  obtain ⟨WB, hWB, hthB, hsB, hbB⟩ := new_stC WA { newC with a := r2, off := 1 } rfl vA
  have hBB := Below.then hBA hbB
  have honeB := st_one { newC with a := r2, off := 1 } vA (SV.own hoA).one
  have hlB : (stCs { newC with a := r2, off := 1 } vA).length = 18 := st_len rfl
  have z3 := hsB.a
  have z1 := hsB.off
  obtain ⟨Z, hZ⟩ : ∃ Z, stCs { newC with a := r2, off := 1 } vA = Z := ⟨_, rfl⟩
  have hZv : Aside (.agg (stCs { newC with a := r2, off := 1 } vA).toArray = Value.agg Z.toArray) := by
    show _ = _
    rw [hZ]
  rw [hZ] at hWB hthB honeB hlB
  have hszZ : (Try.prog.info? 33).map (·.size) = some Z.length := by rw [hlB]; exact hszS
  clear ks hrs hszY hB9 hbA hBA hoA hbB hZ hlB
  go_wp2_with (first | (refine wpList_store_row rfl _ _ rfl WA.heap.size rfl Z hZv.out hthB hszZ honeB hWB ?_) | fail)
  clear hWB hthB honeB hszZ hZv
  refine (kf1 WB).mono ?_
  rintro e C1 ⟨rfl, d1⟩
  go_wp2_with fail
  refine (kf2 C1).mono ?_
  rintro e C2 ⟨rfl, d2⟩
  go_wp2_with fail
  refine (kf3 C2).mono ?_
  rintro e C3 ⟨rfl, d3⟩
  go_wp2_with fail
  refine (kf4 C3).mono ?_
  rintro e C ⟨rfl, d4⟩
  go_wp2_with fail
  refine (kf5 C).mono ?_
  rintro e C5 ⟨rfl, hc5⟩
  rw [hc5]
  have hd := Below.then (Below.then (Below.then d1 d2) d3) d4
  have hsC := hsB.keep hd
  have hBC := Below.then hBB hd
  clear z3 z1 hsB hBB hd d1 d2 d3 d4 kf1 kf2 kf3 kf4 kf5 hc5 C5
  have hbl := alloc_below C (.cells #[.int .i64 r1, .int .i64 r2, .int .i64 r3, .int .i64 r4, .int .i64 r5] 2)
  have hsD := hsC.keep hbl
  have hBD := Below.then hBC hbl
  have z3 := hsD.a
  have z1 := hsD.off
  clear hsC hsD hbl hBC
  go_wp2_with fail
  go_ret
  exact ⟨rfl, hBD⟩
set_option maxRecDepth 8000 in
set_option maxHeartbeats 4000000 in
theorem cpuFloats2 (a b op : Int) (hk : op % 5 = 2) (ha : fit64 a) (hb : fit64 b) (w : World) :
    Calls Try.prog 7 #[.int .i64 a, .int .i64 b, .int .i64 op] w fun e w' => e = .returned (.bool true) ∧ Below w.heap.size w w' := by
  have hundS := Try.underlying33
  have hszS : (Try.prog.info? 33).map (·.size) = some 18 := by kernel_rfl
  have hmi : ∀ (v : Value) (w : World), (Instr.makeInterface 43 v).run Try.prog w = .ok (.iface 43 v) w := fun _ _ => rfl
  have kw := fun W : World => w16_any op 5 (by decide) (by decide) W
  simp only [hk] at kw
  have hst := flo_step a b 9 (by decide) (by decide)
  have hax : arC 9 a b = fop .mul a b := rfl
  rw [hax] at hst
  clear hk
  have kf1 : ∀ W : World, Calls Try.prog 22 #[.int .i64 a, .int .i64 b] W fun e w' => e = .returned (.int .i64 (fop .add a b)) ∧ Below W.heap.size W w' := fun W => (donjonref1_FAdd_any a b W).mono fun e w' h => ⟨h.1, by obtain ⟨n, q⟩ := h.2; rw [q]; exact below_drewN W n⟩
  have kf2 : ∀ W : World, Calls Try.prog 23 #[.int .i64 a, .int .i64 b] W fun e w' => e = .returned (.int .i64 (fop .sub a b)) ∧ Below W.heap.size W w' := fun W => (donjonref1_FSub_any a b W).mono fun e w' h => ⟨h.1, by obtain ⟨n, q⟩ := h.2; rw [q]; exact below_drewN W n⟩
  have kf3 : ∀ W : World, Calls Try.prog 24 #[.int .i64 a, .int .i64 b] W fun e w' => e = .returned (.int .i64 (fop .mul a b)) ∧ Below W.heap.size W w' := fun W => (donjonref1_FMul_any a b W).mono fun e w' h => ⟨h.1, by obtain ⟨n, q⟩ := h.2; rw [q]; exact below_drewN W n⟩
  have kf4 : ∀ W : World, Calls Try.prog 25 #[.int .i64 a, .int .i64 b] W fun e w' => e = .returned (.int .i64 (fop .quo a b)) ∧ Below W.heap.size W w' := fun W => (donjonref1_FDiv_any a b W).mono fun e w' h => ⟨h.1, by obtain ⟨n, q⟩ := h.2; rw [q]; exact below_drewN W n⟩
  have kf5 := fun W : World => donjonref1_FLess_any a b W
  generalize fop .add a b = r1 at *
  generalize fop .sub a b = r2 at *
  generalize fop .mul a b = r3 at *
  generalize fop .quo a b = r4 at *
  generalize less a b = r5 at *
  go_enter Try.func7, Try.ntmps7
  go_wp2_with fail
  refine (ck_any w).mono ?_
  rintro e W1 ⟨rfl, hB1⟩
  go_wp2_with fail
  refine (kw W1).mono ?_
  rintro e W2 ⟨rfl, hw2⟩
  rw [hw2]
  clear kw hw2 W2
  have hbi := alloc_below W1 (.cells (ins3 ⟨9, 0, 1⟩).toArray 64)
  have hri := row_list (f := ins3) (sz := 3) (fun _ => rfl) W1 [⟨9, 0, 1⟩] #[.int .i64 9, .int .i64 0, .int .i64 1] rfl 64
  have hbj := alloc_below (W1.alloc (.cells (ins3 ⟨9, 0, 1⟩).toArray 64)) (.cells #[.int .i64 b] 2)
  have hrj := row_list (f := wcl) (sz := 1) (fun _ => rfl) (W1.alloc (.cells (ins3 ⟨9, 0, 1⟩).toArray 64)) [b] #[.int .i64 b] rfl 2
  have ko := cone_any [⟨9, 0, 1⟩] [b] (some ⟨W1.heap.size, 0, none⟩) (some ⟨(W1.alloc (.cells (ins3 ⟨9, 0, 1⟩).toArray 64)).heap.size, 0, none⟩) 1 1 (by show 1 ≤ 100; decide) (by show 1 ≤ 100; decide) (fun q => by cases q) _ (hri.below in_okC.len hbj) hrj
  have hB3 := Below.then (Below.then hB1 hbi) hbj
  rw [show (W1.alloc (.cells (ins3 ⟨9, 0, 1⟩).toArray 64)).heap.size = W1.heap.size + 1 by simp] at ko
  clear hri hrj hbi hbj
  go_wp2_with fail
  refine ko.mono ?_
  rintro e W4 ⟨x, hxg, rfl, hxo, hb4⟩
  have hB4 := Below.then hB3 hb4
  have hxo4 := hxo
  clear ko hB3 hb4
  have hrx := row_list pg_len W4 [x] x.cs.toArray (by simp) 57
  have hbx := alloc_below W4 (.cells x.cs.toArray 57)
  have hB5 := Below.then hB4 hbx
  have hxa := (own_at hxo).below hbx
  have hxo5 := hxo.below hbx
  have hG5 : RowG (W4.alloc (.cells x.cs.toArray 57)) (some ⟨W4.heap.size, 0, none⟩) [x] := ⟨hrx, fun z hz => by rw [List.mem_singleton.1 hz]; exact hxa⟩
  go_upto_region 5 with (first | (refine wpList_build1 pg_okC (by decide) rfl _ rfl x.cs rfl rfl ?_) | fail)
  generalize W4.heap.size = gs at *
  clear hrx hbx hxa hxo4 hB4
  generalize W4.alloc (.cells x.cs.toArray 57) = W5 at *
  go_wp2_with fail
  refine (cnew_any W5).mono ?_
  rintro e W6 ⟨rfl, hb6⟩
  obtain ⟨W7, hW7, hth7, hs7, hb7⟩ := new_stC W6 newC rfl nilS
  have hB7 := Below.then (Below.then hB5 hb6) hb7
  have hG7 := (hG5.below hb6).below hb7
  have hxo7 := (hxo5.below hb6).below hb7
  have y3 := hs7.a
  have yf := (hs7.blk.1 3 _ rfl).2
  have hs8 : StAt W6.heap.size { newC with a := a } nilS (W7.setCell ⟨W6.heap.size, 3, none⟩ (.int .i64 a)) := by
    have h1 := hs7.blk.1.set 3 (.int .i64 a) (by show 3 < 18; decide)
    exact ⟨rfl, h1, h1.lt rfl⟩
  have hl6 := (Below.then hB5 hb6).size
  have hB8 := hB7.setCell (p := ⟨W6.heap.size, 3, none⟩) hl6 (.int .i64 a)
  have hb8 : Below W6.heap.size W6 (W7.setCell ⟨W6.heap.size, 3, none⟩ (.int .i64 a)) := hb7.setCell (p := ⟨W6.heap.size, 3, none⟩) (Nat.le_refl _) (.int .i64 a)
  have hG8 := (hG5.below hb6).below hb8
  have hxo8 := (hxo5.below hb6).below hb8
  have hone7 : ∀ u ∈ stCs newC nilS, u.oneCell' = true := st_one _ _ rfl
  have hsz7 : (Try.prog.info? 33).map (·.size) = some (stCs newC nilS).length := by kernel_rfl
  obtain ⟨Y, hY⟩ : ∃ Y, stCs newC nilS = Y := ⟨_, rfl⟩
  rw [hY] at hW7 hth7 hone7 hsz7
  have hYv : Aside (.agg (stCs newC nilS).toArray = Value.agg Y.toArray) := by rw [hY]; exact rfl
  clear hY hG5 hxo5 hB5 hb6 hb7 hb8 hG7 hxo7 hB7 hs7
  go_upto_region 7 with (first | (refine wpList_store_row rfl _ _ rfl W6.heap.size rfl Y hYv.out hth7 hsz7 hone7 hW7 ?_) | fail)
  clear hW7 hth7 hone7 hsz7 hYv y3 yf hl6
  generalize W7.setCell ⟨W6.heap.size, 3, none⟩ (.int .i64 a) = W8 at *
  generalize W6.heap.size = bs at *
  have hbb := alloc_below W8 (.cells (memCs (.slice (some ⟨gs, 0, none⟩) 1 1) false 0 0 0 0).toArray 47)
  have hbm := blkl_alloc W8 (memCs (.slice (some ⟨gs, 0, none⟩) 1 1) false 0 0 0 0).toArray 47
  have hok : x.g.Ok := by rw [hxg]; exact one_ok (fun z hz => by rw [List.mem_singleton.1 hz]; exact hb) (by show 1 + 1 ≤ 1000; decide)
  have hM9 := MemO.of hok (hxo8.below hbb) hbm (hG8.below hbb)
  have hB9 := Below.then hB8 hbb
  have ks := cstepV { newC with a := a } ⟨rfl, newC_ok.pp, newC_ok.ring, ha, newC_ok.st, newC_ok.sr⟩ nilS hM9 (SV.nil _) (okC { newC with a := r3, off := 1 }) (by rw [show [x].map (·.g) = [oneG [⟨9, 0, 1⟩] [b]] by simp [hxg]]; exact hst)
  have hrs := hs8.blk.range
  have hszY : (Try.prog.info? 33).map (·.size) = some (stCs { newC with a := a } nilS).length := hszS
  obtain ⟨Y, hY⟩ : ∃ Y, stCs { newC with a := a } nilS = Y := ⟨_, rfl⟩
  rw [hY] at hrs ks hszY
  clear hY hM9 hB8 hG8 hxo8 hs8 hbm hbb hst hok hxg
  replace ks : Calls Try.prog 17 #[.agg Y.toArray, .iface 43 (.pointer (some ⟨W8.heap.size, 0, none⟩))] (W8.alloc (.cells #[.slice (some ⟨gs, 0, none⟩) 1 1, .bool false, .int .i64 0, .int .i64 0, .int .i64 0, .int .i64 0] 47)) (StP W8.heap.size (.slice (some ⟨gs, 0, none⟩) 1 1) 0 (okC { newC with a := r3, off := 1 }) (W8.alloc (.cells #[.slice (some ⟨gs, 0, none⟩) 1 1, .bool false, .int .i64 0, .int .i64 0, .int .i64 0, .int .i64 0] 47))) := ks
  replace hB9 : Below w.heap.size w (W8.alloc (.cells #[.slice (some ⟨gs, 0, none⟩) 1 1, .bool false, .int .i64 0, .int .i64 0, .int .i64 0, .int .i64 0] 47)) := hB9
  go_wp2_with (first | (refine wpList_load_row rfl _ rfl bs rfl Y hrs hundS rfl hszY ?_) | fail)
  refine ks.mono ?_
  rintro e WA hP
  obtain ⟨vA, rfl, hoA, hbA⟩ := hP.okE
  have hBA := Below.then hB9 hbA
  obtain ⟨WB, hWB, hthB, hsB, hbB⟩ := new_stC WA { newC with a := r3, off := 1 } rfl vA
  have hBB := Below.then hBA hbB
  have honeB := st_one { newC with a := r3, off := 1 } vA (SV.own hoA).one
  have hlB : (stCs { newC with a := r3, off := 1 } vA).length = 18 := st_len rfl
  have z3 := hsB.a
  have z1 := hsB.off
  obtain ⟨Z, hZ⟩ : ∃ Z, stCs { newC with a := r3, off := 1 } vA = Z := ⟨_, rfl⟩
  have hZv : Aside (.agg (stCs { newC with a := r3, off := 1 } vA).toArray = Value.agg Z.toArray) := by
    show _ = _
    rw [hZ]
  rw [hZ] at hWB hthB honeB hlB
  have hszZ : (Try.prog.info? 33).map (·.size) = some Z.length := by rw [hlB]; exact hszS
  clear ks hrs hszY hB9 hbA hBA hoA hbB hZ hlB
  go_wp2_with (first | (refine wpList_store_row rfl _ _ rfl WA.heap.size rfl Z hZv.out hthB hszZ honeB hWB ?_) | fail)
  clear hWB hthB honeB hszZ hZv
  refine (kf1 WB).mono ?_
  rintro e C1 ⟨rfl, d1⟩
  go_wp2_with fail
  refine (kf2 C1).mono ?_
  rintro e C2 ⟨rfl, d2⟩
  go_wp2_with fail
  refine (kf3 C2).mono ?_
  rintro e C3 ⟨rfl, d3⟩
  go_wp2_with fail
  refine (kf4 C3).mono ?_
  rintro e C ⟨rfl, d4⟩
  go_wp2_with fail
  refine (kf5 C).mono ?_
  rintro e C5 ⟨rfl, hc5⟩
  rw [hc5]
  have hd := Below.then (Below.then (Below.then d1 d2) d3) d4
  have hsC := hsB.keep hd
  have hBC := Below.then hBB hd
  clear z3 z1 hsB hBB hd d1 d2 d3 d4 kf1 kf2 kf3 kf4 kf5 hc5 C5
  have hbl := alloc_below C (.cells #[.int .i64 r1, .int .i64 r2, .int .i64 r3, .int .i64 r4, .int .i64 r5] 2)
  have hsD := hsC.keep hbl
  have hBD := Below.then hBC hbl
  have z3 := hsD.a
  have z1 := hsD.off
  clear hsC hsD hbl hBC
  go_wp2_with fail
  go_ret
  exact ⟨rfl, hBD⟩
set_option maxRecDepth 8000 in
set_option maxHeartbeats 4000000 in
theorem cpuFloats3 (a b op : Int) (hk : op % 5 = 3) (ha : fit64 a) (hb : fit64 b) (w : World) :
    Calls Try.prog 7 #[.int .i64 a, .int .i64 b, .int .i64 op] w fun e w' => e = .returned (.bool true) ∧ Below w.heap.size w w' := by
  have hundS := Try.underlying33
  have hszS : (Try.prog.info? 33).map (·.size) = some 18 := by kernel_rfl
  have hmi : ∀ (v : Value) (w : World), (Instr.makeInterface 43 v).run Try.prog w = .ok (.iface 43 v) w := fun _ _ => rfl
  have kw := fun W : World => w16_any op 5 (by decide) (by decide) W
  simp only [hk] at kw
  have hst := flo_step a b 10 (by decide) (by decide)
  have hax : arC 10 a b = fop .quo a b := rfl
  rw [hax] at hst
  clear hk
  have kf1 : ∀ W : World, Calls Try.prog 22 #[.int .i64 a, .int .i64 b] W fun e w' => e = .returned (.int .i64 (fop .add a b)) ∧ Below W.heap.size W w' := fun W => (donjonref1_FAdd_any a b W).mono fun e w' h => ⟨h.1, by obtain ⟨n, q⟩ := h.2; rw [q]; exact below_drewN W n⟩
  have kf2 : ∀ W : World, Calls Try.prog 23 #[.int .i64 a, .int .i64 b] W fun e w' => e = .returned (.int .i64 (fop .sub a b)) ∧ Below W.heap.size W w' := fun W => (donjonref1_FSub_any a b W).mono fun e w' h => ⟨h.1, by obtain ⟨n, q⟩ := h.2; rw [q]; exact below_drewN W n⟩
  have kf3 : ∀ W : World, Calls Try.prog 24 #[.int .i64 a, .int .i64 b] W fun e w' => e = .returned (.int .i64 (fop .mul a b)) ∧ Below W.heap.size W w' := fun W => (donjonref1_FMul_any a b W).mono fun e w' h => ⟨h.1, by obtain ⟨n, q⟩ := h.2; rw [q]; exact below_drewN W n⟩
  have kf4 : ∀ W : World, Calls Try.prog 25 #[.int .i64 a, .int .i64 b] W fun e w' => e = .returned (.int .i64 (fop .quo a b)) ∧ Below W.heap.size W w' := fun W => (donjonref1_FDiv_any a b W).mono fun e w' h => ⟨h.1, by obtain ⟨n, q⟩ := h.2; rw [q]; exact below_drewN W n⟩
  have kf5 := fun W : World => donjonref1_FLess_any a b W
  generalize fop .add a b = r1 at *
  generalize fop .sub a b = r2 at *
  generalize fop .mul a b = r3 at *
  generalize fop .quo a b = r4 at *
  generalize less a b = r5 at *
  go_enter Try.func7, Try.ntmps7
  go_wp2_with fail
  refine (ck_any w).mono ?_
  rintro e W1 ⟨rfl, hB1⟩
  go_wp2_with fail
  refine (kw W1).mono ?_
  rintro e W2 ⟨rfl, hw2⟩
  rw [hw2]
  clear kw hw2 W2
  have hbi := alloc_below W1 (.cells (ins3 ⟨10, 0, 1⟩).toArray 64)
  have hri := row_list (f := ins3) (sz := 3) (fun _ => rfl) W1 [⟨10, 0, 1⟩] #[.int .i64 10, .int .i64 0, .int .i64 1] rfl 64
  have hbj := alloc_below (W1.alloc (.cells (ins3 ⟨10, 0, 1⟩).toArray 64)) (.cells #[.int .i64 b] 2)
  have hrj := row_list (f := wcl) (sz := 1) (fun _ => rfl) (W1.alloc (.cells (ins3 ⟨10, 0, 1⟩).toArray 64)) [b] #[.int .i64 b] rfl 2
  have ko := cone_any [⟨10, 0, 1⟩] [b] (some ⟨W1.heap.size, 0, none⟩) (some ⟨(W1.alloc (.cells (ins3 ⟨10, 0, 1⟩).toArray 64)).heap.size, 0, none⟩) 1 1 (by show 1 ≤ 100; decide) (by show 1 ≤ 100; decide) (fun q => by cases q) _ (hri.below in_okC.len hbj) hrj
  have hB3 := Below.then (Below.then hB1 hbi) hbj
  rw [show (W1.alloc (.cells (ins3 ⟨10, 0, 1⟩).toArray 64)).heap.size = W1.heap.size + 1 by simp] at ko
  clear hri hrj hbi hbj
  go_wp2_with fail
  refine ko.mono ?_
  rintro e W4 ⟨x, hxg, rfl, hxo, hb4⟩
  have hB4 := Below.then hB3 hb4
  have hxo4 := hxo
  clear ko hB3 hb4
  have hrx := row_list pg_len W4 [x] x.cs.toArray (by simp) 57
  have hbx := alloc_below W4 (.cells x.cs.toArray 57)
  have hB5 := Below.then hB4 hbx
  have hxa := (own_at hxo).below hbx
  have hxo5 := hxo.below hbx
  have hG5 : RowG (W4.alloc (.cells x.cs.toArray 57)) (some ⟨W4.heap.size, 0, none⟩) [x] := ⟨hrx, fun z hz => by rw [List.mem_singleton.1 hz]; exact hxa⟩
  go_upto_region 5 with (first | (refine wpList_build1 pg_okC (by decide) rfl _ rfl x.cs rfl rfl ?_) | fail)
  generalize W4.heap.size = gs at *
  clear hrx hbx hxa hxo4 hB4
  generalize W4.alloc (.cells x.cs.toArray 57) = W5 at *
  go_wp2_with fail
  refine (cnew_any W5).mono ?_
  rintro e W6 ⟨rfl, hb6⟩
  obtain ⟨W7, hW7, hth7, hs7, hb7⟩ := new_stC W6 newC rfl nilS
  have hB7 := Below.then (Below.then hB5 hb6) hb7
  have hG7 := (hG5.below hb6).below hb7
  have hxo7 := (hxo5.below hb6).below hb7
  have y3 := hs7.a
  have yf := (hs7.blk.1 3 _ rfl).2
  have hs8 : StAt W6.heap.size { newC with a := a } nilS (W7.setCell ⟨W6.heap.size, 3, none⟩ (.int .i64 a)) := by
    have h1 := hs7.blk.1.set 3 (.int .i64 a) (by show 3 < 18; decide)
    exact ⟨rfl, h1, h1.lt rfl⟩
  have hl6 := (Below.then hB5 hb6).size
  have hB8 := hB7.setCell (p := ⟨W6.heap.size, 3, none⟩) hl6 (.int .i64 a)
  have hb8 : Below W6.heap.size W6 (W7.setCell ⟨W6.heap.size, 3, none⟩ (.int .i64 a)) := hb7.setCell (p := ⟨W6.heap.size, 3, none⟩) (Nat.le_refl _) (.int .i64 a)
  have hG8 := (hG5.below hb6).below hb8
  have hxo8 := (hxo5.below hb6).below hb8
  have hone7 : ∀ u ∈ stCs newC nilS, u.oneCell' = true := st_one _ _ rfl
  have hsz7 : (Try.prog.info? 33).map (·.size) = some (stCs newC nilS).length := by kernel_rfl
  obtain ⟨Y, hY⟩ : ∃ Y, stCs newC nilS = Y := ⟨_, rfl⟩
  rw [hY] at hW7 hth7 hone7 hsz7
  have hYv : Aside (.agg (stCs newC nilS).toArray = Value.agg Y.toArray) := by rw [hY]; exact rfl
  clear hY hG5 hxo5 hB5 hb6 hb7 hb8 hG7 hxo7 hB7 hs7
  go_upto_region 7 with (first | (refine wpList_store_row rfl _ _ rfl W6.heap.size rfl Y hYv.out hth7 hsz7 hone7 hW7 ?_) | fail)
  clear hW7 hth7 hone7 hsz7 hYv y3 yf hl6
  generalize W7.setCell ⟨W6.heap.size, 3, none⟩ (.int .i64 a) = W8 at *
  generalize W6.heap.size = bs at *
  have hbb := alloc_below W8 (.cells (memCs (.slice (some ⟨gs, 0, none⟩) 1 1) false 0 0 0 0).toArray 47)
  have hbm := blkl_alloc W8 (memCs (.slice (some ⟨gs, 0, none⟩) 1 1) false 0 0 0 0).toArray 47
  have hok : x.g.Ok := by rw [hxg]; exact one_ok (fun z hz => by rw [List.mem_singleton.1 hz]; exact hb) (by show 1 + 1 ≤ 1000; decide)
  have hM9 := MemO.of hok (hxo8.below hbb) hbm (hG8.below hbb)
  have hB9 := Below.then hB8 hbb
  have ks := cstepV { newC with a := a } ⟨rfl, newC_ok.pp, newC_ok.ring, ha, newC_ok.st, newC_ok.sr⟩ nilS hM9 (SV.nil _) (okC { newC with a := r4, off := 1 }) (by rw [show [x].map (·.g) = [oneG [⟨10, 0, 1⟩] [b]] by simp [hxg]]; exact hst)
  have hrs := hs8.blk.range
  have hszY : (Try.prog.info? 33).map (·.size) = some (stCs { newC with a := a } nilS).length := hszS
  obtain ⟨Y, hY⟩ : ∃ Y, stCs { newC with a := a } nilS = Y := ⟨_, rfl⟩
  rw [hY] at hrs ks hszY
  clear hY hM9 hB8 hG8 hxo8 hs8 hbm hbb hst hok hxg
  replace ks : Calls Try.prog 17 #[.agg Y.toArray, .iface 43 (.pointer (some ⟨W8.heap.size, 0, none⟩))] (W8.alloc (.cells #[.slice (some ⟨gs, 0, none⟩) 1 1, .bool false, .int .i64 0, .int .i64 0, .int .i64 0, .int .i64 0] 47)) (StP W8.heap.size (.slice (some ⟨gs, 0, none⟩) 1 1) 0 (okC { newC with a := r4, off := 1 }) (W8.alloc (.cells #[.slice (some ⟨gs, 0, none⟩) 1 1, .bool false, .int .i64 0, .int .i64 0, .int .i64 0, .int .i64 0] 47))) := ks
  replace hB9 : Below w.heap.size w (W8.alloc (.cells #[.slice (some ⟨gs, 0, none⟩) 1 1, .bool false, .int .i64 0, .int .i64 0, .int .i64 0, .int .i64 0] 47)) := hB9
  go_wp2_with (first | (refine wpList_load_row rfl _ rfl bs rfl Y hrs hundS rfl hszY ?_) | fail)
  refine ks.mono ?_
  rintro e WA hP
  obtain ⟨vA, rfl, hoA, hbA⟩ := hP.okE
  have hBA := Below.then hB9 hbA
  obtain ⟨WB, hWB, hthB, hsB, hbB⟩ := new_stC WA { newC with a := r4, off := 1 } rfl vA
  have hBB := Below.then hBA hbB
  have honeB := st_one { newC with a := r4, off := 1 } vA (SV.own hoA).one
  have hlB : (stCs { newC with a := r4, off := 1 } vA).length = 18 := st_len rfl
  have z3 := hsB.a
  have z1 := hsB.off
  obtain ⟨Z, hZ⟩ : ∃ Z, stCs { newC with a := r4, off := 1 } vA = Z := ⟨_, rfl⟩
  have hZv : Aside (.agg (stCs { newC with a := r4, off := 1 } vA).toArray = Value.agg Z.toArray) := by
    show _ = _
    rw [hZ]
  rw [hZ] at hWB hthB honeB hlB
  have hszZ : (Try.prog.info? 33).map (·.size) = some Z.length := by rw [hlB]; exact hszS
  clear ks hrs hszY hB9 hbA hBA hoA hbB hZ hlB
  go_wp2_with (first | (refine wpList_store_row rfl _ _ rfl WA.heap.size rfl Z hZv.out hthB hszZ honeB hWB ?_) | fail)
  clear hWB hthB honeB hszZ hZv
  refine (kf1 WB).mono ?_
  rintro e C1 ⟨rfl, d1⟩
  go_wp2_with fail
  refine (kf2 C1).mono ?_
  rintro e C2 ⟨rfl, d2⟩
  go_wp2_with fail
  refine (kf3 C2).mono ?_
  rintro e C3 ⟨rfl, d3⟩
  go_wp2_with fail
  refine (kf4 C3).mono ?_
  rintro e C ⟨rfl, d4⟩
  go_wp2_with fail
  refine (kf5 C).mono ?_
  rintro e C5 ⟨rfl, hc5⟩
  rw [hc5]
  have hd := Below.then (Below.then (Below.then d1 d2) d3) d4
  have hsC := hsB.keep hd
  have hBC := Below.then hBB hd
  clear z3 z1 hsB hBB hd d1 d2 d3 d4 kf1 kf2 kf3 kf4 kf5 hc5 C5
  have hbl := alloc_below C (.cells #[.int .i64 r1, .int .i64 r2, .int .i64 r3, .int .i64 r4, .int .i64 r5] 2)
  have hsD := hsC.keep hbl
  have hBD := Below.then hBC hbl
  have z3 := hsD.a
  have z1 := hsD.off
  clear hsC hsD hbl hBC
  go_wp2_with fail
  go_ret
  exact ⟨rfl, hBD⟩
set_option maxRecDepth 8000 in
set_option maxHeartbeats 4000000 in
theorem cpuFloats4 (a b op : Int) (hk : op % 5 = 4) (ha : fit64 a) (hb : fit64 b) (w : World) :
    Calls Try.prog 7 #[.int .i64 a, .int .i64 b, .int .i64 op] w fun e w' => e = .returned (.bool true) ∧ Below w.heap.size w w' := by
  have hundS := Try.underlying33
  have hszS : (Try.prog.info? 33).map (·.size) = some 18 := by kernel_rfl
  have hmi : ∀ (v : Value) (w : World), (Instr.makeInterface 43 v).run Try.prog w = .ok (.iface 43 v) w := fun _ _ => rfl
  have kw := fun W : World => w16_any op 5 (by decide) (by decide) W
  simp only [hk] at kw
  have hst := flo_step a b 11 (by decide) (by decide)
  have hax : arC 11 a b = less a b := rfl
  rw [hax] at hst
  clear hk
  have kf1 : ∀ W : World, Calls Try.prog 22 #[.int .i64 a, .int .i64 b] W fun e w' => e = .returned (.int .i64 (fop .add a b)) ∧ Below W.heap.size W w' := fun W => (donjonref1_FAdd_any a b W).mono fun e w' h => ⟨h.1, by obtain ⟨n, q⟩ := h.2; rw [q]; exact below_drewN W n⟩
  have kf2 : ∀ W : World, Calls Try.prog 23 #[.int .i64 a, .int .i64 b] W fun e w' => e = .returned (.int .i64 (fop .sub a b)) ∧ Below W.heap.size W w' := fun W => (donjonref1_FSub_any a b W).mono fun e w' h => ⟨h.1, by obtain ⟨n, q⟩ := h.2; rw [q]; exact below_drewN W n⟩
  have kf3 : ∀ W : World, Calls Try.prog 24 #[.int .i64 a, .int .i64 b] W fun e w' => e = .returned (.int .i64 (fop .mul a b)) ∧ Below W.heap.size W w' := fun W => (donjonref1_FMul_any a b W).mono fun e w' h => ⟨h.1, by obtain ⟨n, q⟩ := h.2; rw [q]; exact below_drewN W n⟩
  have kf4 : ∀ W : World, Calls Try.prog 25 #[.int .i64 a, .int .i64 b] W fun e w' => e = .returned (.int .i64 (fop .quo a b)) ∧ Below W.heap.size W w' := fun W => (donjonref1_FDiv_any a b W).mono fun e w' h => ⟨h.1, by obtain ⟨n, q⟩ := h.2; rw [q]; exact below_drewN W n⟩
  have kf5 := fun W : World => donjonref1_FLess_any a b W
  generalize fop .add a b = r1 at *
  generalize fop .sub a b = r2 at *
  generalize fop .mul a b = r3 at *
  generalize fop .quo a b = r4 at *
  generalize less a b = r5 at *
  go_enter Try.func7, Try.ntmps7
  go_wp2_with fail
  refine (ck_any w).mono ?_
  rintro e W1 ⟨rfl, hB1⟩
  go_wp2_with fail
  refine (kw W1).mono ?_
  rintro e W2 ⟨rfl, hw2⟩
  rw [hw2]
  clear kw hw2 W2
  have hbi := alloc_below W1 (.cells (ins3 ⟨11, 0, 1⟩).toArray 64)
  have hri := row_list (f := ins3) (sz := 3) (fun _ => rfl) W1 [⟨11, 0, 1⟩] #[.int .i64 11, .int .i64 0, .int .i64 1] rfl 64
  have hbj := alloc_below (W1.alloc (.cells (ins3 ⟨11, 0, 1⟩).toArray 64)) (.cells #[.int .i64 b] 2)
  have hrj := row_list (f := wcl) (sz := 1) (fun _ => rfl) (W1.alloc (.cells (ins3 ⟨11, 0, 1⟩).toArray 64)) [b] #[.int .i64 b] rfl 2
  have ko := cone_any [⟨11, 0, 1⟩] [b] (some ⟨W1.heap.size, 0, none⟩) (some ⟨(W1.alloc (.cells (ins3 ⟨11, 0, 1⟩).toArray 64)).heap.size, 0, none⟩) 1 1 (by show 1 ≤ 100; decide) (by show 1 ≤ 100; decide) (fun q => by cases q) _ (hri.below in_okC.len hbj) hrj
  have hB3 := Below.then (Below.then hB1 hbi) hbj
  rw [show (W1.alloc (.cells (ins3 ⟨11, 0, 1⟩).toArray 64)).heap.size = W1.heap.size + 1 by simp] at ko
  clear hri hrj hbi hbj
  go_wp2_with fail
  refine ko.mono ?_
  rintro e W4 ⟨x, hxg, rfl, hxo, hb4⟩
  have hB4 := Below.then hB3 hb4
  have hxo4 := hxo
  clear ko hB3 hb4
  have hrx := row_list pg_len W4 [x] x.cs.toArray (by simp) 57
  have hbx := alloc_below W4 (.cells x.cs.toArray 57)
  have hB5 := Below.then hB4 hbx
  have hxa := (own_at hxo).below hbx
  have hxo5 := hxo.below hbx
  have hG5 : RowG (W4.alloc (.cells x.cs.toArray 57)) (some ⟨W4.heap.size, 0, none⟩) [x] := ⟨hrx, fun z hz => by rw [List.mem_singleton.1 hz]; exact hxa⟩
  go_upto_region 5 with (first | (refine wpList_build1 pg_okC (by decide) rfl _ rfl x.cs rfl rfl ?_) | fail)
  generalize W4.heap.size = gs at *
  clear hrx hbx hxa hxo4 hB4
  generalize W4.alloc (.cells x.cs.toArray 57) = W5 at *
  go_wp2_with fail
  refine (cnew_any W5).mono ?_
  rintro e W6 ⟨rfl, hb6⟩
  obtain ⟨W7, hW7, hth7, hs7, hb7⟩ := new_stC W6 newC rfl nilS
  have hB7 := Below.then (Below.then hB5 hb6) hb7
  have hG7 := (hG5.below hb6).below hb7
  have hxo7 := (hxo5.below hb6).below hb7
  have y3 := hs7.a
  have yf := (hs7.blk.1 3 _ rfl).2
  have hs8 : StAt W6.heap.size { newC with a := a } nilS (W7.setCell ⟨W6.heap.size, 3, none⟩ (.int .i64 a)) := by
    have h1 := hs7.blk.1.set 3 (.int .i64 a) (by show 3 < 18; decide)
    exact ⟨rfl, h1, h1.lt rfl⟩
  have hl6 := (Below.then hB5 hb6).size
  have hB8 := hB7.setCell (p := ⟨W6.heap.size, 3, none⟩) hl6 (.int .i64 a)
  have hb8 : Below W6.heap.size W6 (W7.setCell ⟨W6.heap.size, 3, none⟩ (.int .i64 a)) := hb7.setCell (p := ⟨W6.heap.size, 3, none⟩) (Nat.le_refl _) (.int .i64 a)
  have hG8 := (hG5.below hb6).below hb8
  have hxo8 := (hxo5.below hb6).below hb8
  have hone7 : ∀ u ∈ stCs newC nilS, u.oneCell' = true := st_one _ _ rfl
  have hsz7 : (Try.prog.info? 33).map (·.size) = some (stCs newC nilS).length := by kernel_rfl
  obtain ⟨Y, hY⟩ : ∃ Y, stCs newC nilS = Y := ⟨_, rfl⟩
  rw [hY] at hW7 hth7 hone7 hsz7
  have hYv : Aside (.agg (stCs newC nilS).toArray = Value.agg Y.toArray) := by rw [hY]; exact rfl
  clear hY hG5 hxo5 hB5 hb6 hb7 hb8 hG7 hxo7 hB7 hs7
  go_upto_region 7 with (first | (refine wpList_store_row rfl _ _ rfl W6.heap.size rfl Y hYv.out hth7 hsz7 hone7 hW7 ?_) | fail)
  clear hW7 hth7 hone7 hsz7 hYv y3 yf hl6
  generalize W7.setCell ⟨W6.heap.size, 3, none⟩ (.int .i64 a) = W8 at *
  generalize W6.heap.size = bs at *
  have hbb := alloc_below W8 (.cells (memCs (.slice (some ⟨gs, 0, none⟩) 1 1) false 0 0 0 0).toArray 47)
  have hbm := blkl_alloc W8 (memCs (.slice (some ⟨gs, 0, none⟩) 1 1) false 0 0 0 0).toArray 47
  have hok : x.g.Ok := by rw [hxg]; exact one_ok (fun z hz => by rw [List.mem_singleton.1 hz]; exact hb) (by show 1 + 1 ≤ 1000; decide)
  have hM9 := MemO.of hok (hxo8.below hbb) hbm (hG8.below hbb)
  have hB9 := Below.then hB8 hbb
  have ks := cstepV { newC with a := a } ⟨rfl, newC_ok.pp, newC_ok.ring, ha, newC_ok.st, newC_ok.sr⟩ nilS hM9 (SV.nil _) (okC { newC with a := r5, off := 1 }) (by rw [show [x].map (·.g) = [oneG [⟨11, 0, 1⟩] [b]] by simp [hxg]]; exact hst)
  have hrs := hs8.blk.range
  have hszY : (Try.prog.info? 33).map (·.size) = some (stCs { newC with a := a } nilS).length := hszS
  obtain ⟨Y, hY⟩ : ∃ Y, stCs { newC with a := a } nilS = Y := ⟨_, rfl⟩
  rw [hY] at hrs ks hszY
  clear hY hM9 hB8 hG8 hxo8 hs8 hbm hbb hst hok hxg
  replace ks : Calls Try.prog 17 #[.agg Y.toArray, .iface 43 (.pointer (some ⟨W8.heap.size, 0, none⟩))] (W8.alloc (.cells #[.slice (some ⟨gs, 0, none⟩) 1 1, .bool false, .int .i64 0, .int .i64 0, .int .i64 0, .int .i64 0] 47)) (StP W8.heap.size (.slice (some ⟨gs, 0, none⟩) 1 1) 0 (okC { newC with a := r5, off := 1 }) (W8.alloc (.cells #[.slice (some ⟨gs, 0, none⟩) 1 1, .bool false, .int .i64 0, .int .i64 0, .int .i64 0, .int .i64 0] 47))) := ks
  replace hB9 : Below w.heap.size w (W8.alloc (.cells #[.slice (some ⟨gs, 0, none⟩) 1 1, .bool false, .int .i64 0, .int .i64 0, .int .i64 0, .int .i64 0] 47)) := hB9
  go_wp2_with (first | (refine wpList_load_row rfl _ rfl bs rfl Y hrs hundS rfl hszY ?_) | fail)
  refine ks.mono ?_
  rintro e WA hP
  obtain ⟨vA, rfl, hoA, hbA⟩ := hP.okE
  have hBA := Below.then hB9 hbA
  obtain ⟨WB, hWB, hthB, hsB, hbB⟩ := new_stC WA { newC with a := r5, off := 1 } rfl vA
  have hBB := Below.then hBA hbB
  have honeB := st_one { newC with a := r5, off := 1 } vA (SV.own hoA).one
  have hlB : (stCs { newC with a := r5, off := 1 } vA).length = 18 := st_len rfl
  have z3 := hsB.a
  have z1 := hsB.off
  obtain ⟨Z, hZ⟩ : ∃ Z, stCs { newC with a := r5, off := 1 } vA = Z := ⟨_, rfl⟩
  have hZv : Aside (.agg (stCs { newC with a := r5, off := 1 } vA).toArray = Value.agg Z.toArray) := by
    show _ = _
    rw [hZ]
  rw [hZ] at hWB hthB honeB hlB
  have hszZ : (Try.prog.info? 33).map (·.size) = some Z.length := by rw [hlB]; exact hszS
  clear ks hrs hszY hB9 hbA hBA hoA hbB hZ hlB
  go_wp2_with (first | (refine wpList_store_row rfl _ _ rfl WA.heap.size rfl Z hZv.out hthB hszZ honeB hWB ?_) | fail)
  clear hWB hthB honeB hszZ hZv
  refine (kf1 WB).mono ?_
  rintro e C1 ⟨rfl, d1⟩
  go_wp2_with fail
  refine (kf2 C1).mono ?_
  rintro e C2 ⟨rfl, d2⟩
  go_wp2_with fail
  refine (kf3 C2).mono ?_
  rintro e C3 ⟨rfl, d3⟩
  go_wp2_with fail
  refine (kf4 C3).mono ?_
  rintro e C ⟨rfl, d4⟩
  go_wp2_with fail
  refine (kf5 C).mono ?_
  rintro e C5 ⟨rfl, hc5⟩
  rw [hc5]
  have hd := Below.then (Below.then (Below.then d1 d2) d3) d4
  have hsC := hsB.keep hd
  have hBC := Below.then hBB hd
  clear z3 z1 hsB hBB hd d1 d2 d3 d4 kf1 kf2 kf3 kf4 kf5 hc5 C5
  have hbl := alloc_below C (.cells #[.int .i64 r1, .int .i64 r2, .int .i64 r3, .int .i64 r4, .int .i64 r5] 2)
  have hsD := hsC.keep hbl
  have hBD := Below.then hBC hbl
  have z3 := hsD.a
  have z1 := hsD.off
  clear hsC hsD hbl hBC
  go_wp2_with fail
  go_ret
  exact ⟨rfl, hBD⟩
theorem cpuFloats_walk (a b op : Int) (ha : fit64 a) (hb : fit64 b) (w : World) :
    Calls Try.prog 7 #[.int .i64 a, .int .i64 b, .int .i64 op] w fun e w' => e = .returned (.bool true) ∧ Below w.heap.size w w' := by
  have h : op % 5 = 0 ∨ op % 5 = 1 ∨ op % 5 = 2 ∨ op % 5 = 3 ∨ op % 5 = 4 := by omega
  rcases h with h | h | h | h | h
  · exact cpuFloats0 a b op h ha hb w
  · exact cpuFloats1 a b op h ha hb w
  · exact cpuFloats2 a b op h ha hb w
  · exact cpuFloats3 a b op h ha hb w
  · exact cpuFloats4 a b op h ha hb w
end Go.Proofs.Ytinibccphecdfaa
