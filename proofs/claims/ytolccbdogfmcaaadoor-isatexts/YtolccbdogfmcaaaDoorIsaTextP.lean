/-
  PACKAGE isa's Text AS IT LANDED: numbers by strconv.Itoa, names out of a table. Written by mk_isatextp.py.
-/
import Derived.Test.YtolccbdogfmcaaaDoorIsaText2
import Derived.Test.YtolccbdogfmcaaaDoorIsaFns
import Derived.Test.YtolccbdogfmcaaaDoorIsaShelf
namespace Go.Proofs.YtolccbdogfmcaaaDoor
open Go.RowKit
set_option maxRecDepth 8000
set_option linter.unusedSimpArgs false
set_option linter.unusedVariables false

theorem strI_load (w : World) (y : Addr) (v : Value) (h : w.cell? y = some v) : (Instr.loadAt 9 (.pointer (some y))).run Tryd.prog w = .ok v w := by
  have h1 := Tryd.underlying9
  go_simp
/-- The table that strconv.Itoa reads is as its initialiser lays it. -/
abbrev Tab (w : World) : Prop := Lib.TabIs Tryd.prog w "internal/strconv.uint64pow10" .u64 Lib.pow10Tab
theorem tabG : (Tryd.prog.globalNamed "internal/strconv.uint64pow10").isSome = true := by kernel_rfl
theorem Tab.keep {w w' : World} (h : Tab w) (hb : Below w.heap.size w w') : Tab w' :=
  let ⟨_, hg⟩ := Option.isSome_iff_exists.1 tabG
  Joins.tab_stays hg h hb (Nat.le_refl _)
/-- The table of the operations' names is as its initialiser lays it. -/
def Nms (w : World) : Prop := w.rangeAt 0 0 (opNames.map fun z => Value.string ⟨z.toArray⟩)
/-- What the library's variables, and the table of names, hold. -/
structure Vars (w : World) : Prop where
  tab : Tab w
  nms : ∀ v : Nat, v < 23 → w.cell? ⟨0, v, none⟩ = some (.string (opB (v : Int)))
  max : ∃ m, w.cell? ⟨4, 0, none⟩ = some (.int .i64 m)
  syn : ∃ e, w.cell? ⟨1, 0, none⟩ = some e ∧ (e = .nilIface ∨ ∃ te pe, e = .iface te pe)
  rng : ∃ e, w.cell? ⟨2, 0, none⟩ = some e ∧ (e = .nilIface ∨ ∃ te pe, e = .iface te pe)
theorem Vars.keep {w w' : World} (h : Vars w) (hb : Below w.heap.size w w') : Vars w' := by
  obtain ⟨t, n, ⟨m, hm⟩, ⟨e, he, he'⟩, f, hf, hf'⟩ := h
  exact ⟨t.keep hb, fun v hv => (hb.cell (World.block_lt_of_cell? _ _ (n v hv))).trans (n v hv), ⟨m, (hb.cell (World.block_lt_of_cell? _ _ hm)).trans hm⟩, ⟨e, (hb.cell (World.block_lt_of_cell? _ _ he)).trans he, he'⟩, f, (hb.cell (World.block_lt_of_cell? _ _ hf)).trans hf, hf'⟩
set_option maxRecDepth 8000 in
set_option maxHeartbeats 4000000 in
theorem itext_any (i : Ins) (hi : insE i = 0) (w : World) (hV : Vars w) : Calls Tryd.prog 8 #[i.v] w fun e w' => e = .returned (.string (insB i)) ∧ Below w.heap.size w w' := by
  obtain ⟨⟨a0, a1⟩, a2, a3, a4, a5⟩ := insE_zero.1 hi
  have hund := Tryd.underlying23
  have hsz : (Tryd.prog.info? 23).map (·.size) = some 3 := by kernel_rfl
  have hb0 := blkl_alloc w (ins3 i).toArray 23
  have hB0 := alloc_below w (.cells (ins3 i).toArray 23)
  replace hb0 : BlkL w.heap.size (ins3 i) (w.alloc (.cells (ins3 i).toArray 23)) := hb0
  have kc := icheck_any i
  rw [hi] at kc
  have k2 := itoa_any i.p (by omega) (by omega)
  have k3 := itoa_any i.n (by omega) (by omega)
  have hit : ∀ n : Int, (⟨(Lib.itoa n).toArray⟩ : ByteArray) = itoaB n := fun _ => rfl
  rw [hit] at k2 k3
  have z1 : (opB i.o).size ≤ 5 := by
    show (opL i.o).toArray.size ≤ 5
    simpa using op_len a0 a1
  have z2 := itoaB_size i.p (by omega) (by omega)
  have z3 := itoaB_size i.n (by omega) (by omega)
  have hn := fun (W : World) (h : Vars W) => h.nms i.o.toNat (by omega)
  rw [show ((i.o.toNat : Nat) : Int) = i.o by omega] at hn
  rw [insB_eq]
  generalize opB i.o = x1 at *
  generalize itoaB i.p = x2 at *
  generalize itoaB i.n = x3 at *
  have s1 : ¬ 9223372036854775807 < x1.size + 1 := by omega
  have s2 : ¬ 9223372036854775807 < x1.size + 1 + x2.size := by omega
  have s3 : ¬ 9223372036854775807 < x1.size + 1 + x2.size + 1 := by omega
  have s4 : ¬ 9223372036854775807 < x1.size + 1 + x2.size + 1 + x3.size := by omega
  have c0 : ¬ i.o < 0 := by omega
  have c1 : ¬ 23 ≤ i.o := by omega
  have c2 : i.o < 23 := by omega
  clear z1 z2 z3 hi a1 a2 a3 a4 a5 hit
  go_enter Tryd.func8, Tryd.ntmps8
  go_upto_region 1 with fail
  generalize w.alloc (.cells #[.int .i64 i.o, .int .i64 i.p, .int .i64 i.n] 23) = W0 at *
  have hr0 := hb0.range
  go_wp2_with (first | (refine wpList_load_row rfl _ rfl w.heap.size rfl (ins3 i) hr0 hund rfl hsz ?_) | fail)
  refine (kc W0).mono ?_
  rintro e Z ⟨rfl, hB1⟩
  have hb1 := stab_blk _ _ _ _ hb0 hB1
  replace hB1 := Below.then hB0 hB1
  clear hr0 hb0 hB0 kc
  have hVZ := hV.keep hB1
  have hT := fun (W : World) (q : Below Z.heap.size Z W) => (hVZ.keep q).tab
  have hN := fun (W : World) (q : Below Z.heap.size Z W) => hn W (hVZ.keep q)
  clear hn hV hVZ
  go_upto_region 3 with fail
  have hS0 : Below Z.heap.size Z Z.drew := (Below.refl _ _).drew
  refine wp_region_held_drew (S := (fun W => Below Z.heap.size Z W)) (by kernel_rfl) (by exact hS0) ?_
  intro hHeld
  generalize Z.drew = w0 at *
  refine wpAnyH_take (i := 0) (v := ?_) (by simp only [List.getElem?_toArray, List.getElem?_cons_zero, List.getElem?_cons_succ]; rfl) (by kernel_rfl) (by kernel_rfl) (by kernel_rfl) (by exact fun _ _ _ h => h) (Or.inl ⟨by rfl, ?_⟩) (by assumption) ?_; rotate_left; (focus (intro w hSw; (try dsimp only at hSw); go_simp; try with_reducible rfl)); (try simp only [Act.put, List.setIfInBounds_toArray, List.set_cons_zero, List.set_cons_succ])
  refine wpAnyH_take (i := 1) (v := _) (by simp only [List.getElem?_toArray, List.getElem?_cons_zero, List.getElem?_cons_succ]; rfl) (by kernel_rfl) (by kernel_rfl) (by kernel_rfl) (by exact fun _ _ _ h => h) (yields_cellI (by rfl) _ rfl ⟨w.heap.size, 0, none⟩ rfl (.int .i64 i.o) (fun _ q => ((stab_blk _ _ _ _ hb1 q).1 0 _ rfl).1) intI_load) (by assumption) ?_; (try simp only [Act.put, List.setIfInBounds_toArray, List.set_cons_zero, List.set_cons_succ])
  refine wpAnyH_take (i := 2) (v := ?_) (by simp only [List.getElem?_toArray, List.getElem?_cons_zero, List.getElem?_cons_succ]; rfl) (by kernel_rfl) (by kernel_rfl) (by kernel_rfl) (by exact fun _ _ _ h => h) (Or.inl ⟨by rfl, ?_⟩) (by assumption) ?_; rotate_left; (focus (intro w hSw; (try dsimp only at hSw); go_simp; try with_reducible rfl)); (try simp only [Act.put, List.setIfInBounds_toArray, List.set_cons_zero, List.set_cons_succ])
  refine wpAnyH_take (i := 3) (v := _) (by simp only [List.getElem?_toArray, List.getElem?_cons_zero, List.getElem?_cons_succ]; rfl) (by kernel_rfl) (by kernel_rfl) (by kernel_rfl) (by exact fun _ _ _ h => h) (yields_cellI (by rfl) _ rfl ⟨0, i.o.toNat, none⟩ rfl (.string x1) (fun _ q => hN _ q) strI_load) (by assumption) ?_; (try simp only [Act.put, List.setIfInBounds_toArray, List.set_cons_zero, List.set_cons_succ])
  refine wpAnyH_take (i := 4) (v := ?_) (by simp only [List.getElem?_toArray, List.getElem?_cons_zero, List.getElem?_cons_succ]; rfl) (by kernel_rfl) (by kernel_rfl) (by kernel_rfl) (by exact fun _ _ _ h => h) (Or.inl ⟨by rfl, ?_⟩) (by assumption) ?_; rotate_left; (focus (intro w hSw; (try dsimp only at hSw); go_simp; try with_reducible rfl)); (try simp only [Act.put, List.setIfInBounds_toArray, List.set_cons_zero, List.set_cons_succ])
  refine wpAnyH_take (i := 5) (v := ?_) (by simp only [List.getElem?_toArray, List.getElem?_cons_zero, List.getElem?_cons_succ]; rfl) (by kernel_rfl) (by kernel_rfl) (by kernel_rfl) (by exact fun _ _ _ h => h) (Or.inl ⟨by rfl, ?_⟩) (by assumption) ?_; rotate_left; (focus (intro w hSw; (try dsimp only at hSw); go_simp; try with_reducible rfl)); (try simp only [Act.put, List.setIfInBounds_toArray, List.set_cons_zero, List.set_cons_succ])
  refine wpAnyH_take (i := 6) (v := _) (by simp only [List.getElem?_toArray, List.getElem?_cons_zero, List.getElem?_cons_succ]; rfl) (by kernel_rfl) (by kernel_rfl) (by kernel_rfl) (by exact fun _ _ _ h => h) (yields_cellI (by rfl) _ rfl ⟨w.heap.size, 1, none⟩ rfl (.int .i64 i.p) (fun _ q => ((stab_blk _ _ _ _ hb1 q).1 1 _ rfl).1) intI_load) (by assumption) ?_; (try simp only [Act.put, List.setIfInBounds_toArray, List.set_cons_zero, List.set_cons_succ])
  refine wpAnyH_take (i := 10) (v := ?_) (by simp only [List.getElem?_toArray, List.getElem?_cons_zero, List.getElem?_cons_succ]; rfl) (by kernel_rfl) (by kernel_rfl) (by kernel_rfl) (by exact fun _ _ _ h => h) (Or.inl ⟨by rfl, ?_⟩) (by assumption) ?_; rotate_left; (focus (intro w hSw; (try dsimp only at hSw); go_simp; try with_reducible rfl)); (try simp only [Act.put, List.setIfInBounds_toArray, List.set_cons_zero, List.set_cons_succ])
  refine wpAnyH_take (i := 11) (v := _) (by simp only [List.getElem?_toArray, List.getElem?_cons_zero, List.getElem?_cons_succ]; rfl) (by kernel_rfl) (by kernel_rfl) (by kernel_rfl) (by exact fun _ _ _ h => h) (yields_cellI (by rfl) _ rfl ⟨w.heap.size, 2, none⟩ rfl (.int .i64 i.n) (fun _ q => ((stab_blk _ _ _ _ hb1 q).1 2 _ rfl).1) intI_load) (by assumption) ?_; (try simp only [Act.put, List.setIfInBounds_toArray, List.set_cons_zero, List.set_cons_succ])
  refine wpAnyH_ready (rs := [7]) (by kernel_rfl) (by simp) ?_
  refine AllReadyH.cons (by simp only [List.getElem?_toArray, List.getElem?_cons_zero, List.getElem?_cons_succ]; rfl) (fun K hK => ?_) AllReadyH.nil
  go_simp
  go_at_call 15
  refine (k2 w0 (hT _ hS0)).mono ?_
  rintro e w1 ⟨rfl, hb⟩
  have hS1 := Below.then hS0 hb
  clear hb
  refine hK.out _ _ (by exact hS1) ?_
  clear hHeld hK
  intro hHeld
  (try simp only [Act.put, List.setIfInBounds_toArray, List.set_cons_zero, List.set_cons_succ])
  refine wpAnyH_take (i := 8) (v := ?_) (by simp only [List.getElem?_toArray, List.getElem?_cons_zero, List.getElem?_cons_succ]; rfl) (by kernel_rfl) (by kernel_rfl) (by kernel_rfl) (by exact fun _ _ _ h => h) (Or.inl ⟨by rfl, ?_⟩) (by assumption) ?_; rotate_left; (focus (intro w hSw; (try dsimp only at hSw); go_simp; try with_reducible rfl)); (try simp only [Act.put, List.setIfInBounds_toArray, List.set_cons_zero, List.set_cons_succ])
  refine wpAnyH_take (i := 9) (v := ?_) (by simp only [List.getElem?_toArray, List.getElem?_cons_zero, List.getElem?_cons_succ]; rfl) (by kernel_rfl) (by kernel_rfl) (by kernel_rfl) (by exact fun _ _ _ h => h) (Or.inl ⟨by rfl, ?_⟩) (by assumption) ?_; rotate_left; (focus (intro w hSw; (try dsimp only at hSw); go_simp; try with_reducible rfl)); (try simp only [Act.put, List.setIfInBounds_toArray, List.set_cons_zero, List.set_cons_succ])
  refine wpAnyH_ready (rs := [12]) (by kernel_rfl) (by simp) ?_
  refine AllReadyH.cons (by simp only [List.getElem?_toArray, List.getElem?_cons_zero, List.getElem?_cons_succ]; rfl) (fun K hK => ?_) AllReadyH.nil
  go_simp
  go_at_call 15
  refine (k3 w1 (hT _ hS1)).mono ?_
  rintro e w2 ⟨rfl, hb⟩
  have hS2 := Below.then hS1 hb
  clear hb
  refine hK.out _ _ (by exact hS2) ?_
  clear hHeld hK
  intro hHeld
  (try simp only [Act.put, List.setIfInBounds_toArray, List.set_cons_zero, List.set_cons_succ])
  refine wpAnyH_take (i := 13) (v := ?_) (by simp only [List.getElem?_toArray, List.getElem?_cons_zero, List.getElem?_cons_succ]; rfl) (by kernel_rfl) (by kernel_rfl) (by kernel_rfl) (by exact fun _ _ _ h => h) (Or.inl ⟨by rfl, ?_⟩) (by assumption) ?_; rotate_left; (focus (intro w hSw; (try dsimp only at hSw); go_simp; try with_reducible rfl)); (try simp only [Act.put, List.setIfInBounds_toArray, List.set_cons_zero, List.set_cons_succ])
  refine wpAnyH_take (i := 14) (v := ?_) (by simp only [List.getElem?_toArray, List.getElem?_cons_zero, List.getElem?_cons_succ]; rfl) (by kernel_rfl) (by kernel_rfl) (by kernel_rfl) (by exact fun _ _ _ h => h) (Or.inl ⟨by rfl, ?_⟩) (by assumption) ?_; rotate_left; (focus (intro w hSw; (try dsimp only at hSw); go_simp; try with_reducible rfl)); (try simp only [Act.put, List.setIfInBounds_toArray, List.set_cons_zero, List.set_cons_succ])
  refine wpAnyH_done (by kernel_rfl) ?_ _
  have hfin := Below.then hB1 hS2
  go_wp2_with fail
  go_ret
  exact ⟨rfl, hfin⟩
/-- Of what Encode refuses there is no text. -/
theorem itext_none (i : Ins) (hi : insE i ≠ 0) (w : World) : Calls Tryd.prog 8 #[i.v] w fun e w' => e = .returned (.string ⟨#[]⟩) ∧ Below w.heap.size w w' := by
  have hund := Tryd.underlying23
  have hsz : (Tryd.prog.info? 23).map (·.size) = some 3 := by kernel_rfl
  have hb0 := blkl_alloc w (ins3 i).toArray 23
  have hB0 := alloc_below w (.cells (ins3 i).toArray 23)
  replace hb0 : BlkL w.heap.size (ins3 i) (w.alloc (.cells (ins3 i).toArray 23)) := hb0
  have kc := icheck_any i
  generalize insE i = E at *
  have hn : (E != 0) = true := by simpa using hi
  clear hi
  go_enter Tryd.func8, Tryd.ntmps8
  go_upto_region 1 with fail
  generalize w.alloc (.cells #[.int .i64 i.o, .int .i64 i.p, .int .i64 i.n] 23) = W0 at *
  have hr0 := hb0.range
  go_wp2_with (first | (refine wpList_load_row rfl _ rfl w.heap.size rfl (ins3 i) hr0 hund rfl hsz ?_) | fail)
  refine (kc W0).mono ?_
  rintro e Z ⟨rfl, hB1⟩
  replace hB1 := Below.then hB0 hB1
  go_wp2_with fail
  go_ret
  exact ⟨rfl, hB1⟩
end Go.Proofs.YtolccbdogfmcaaaDoor
