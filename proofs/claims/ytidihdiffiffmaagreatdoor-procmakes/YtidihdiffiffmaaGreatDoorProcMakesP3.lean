/-
  PART 3 of what ProcMakes leans on: TreeOwn TreeGrowT MonLaw ProcPure PutPure PcFnA PcFnB PcFnC PcFnD PcFnE IsaParts IsaFns PcFnF.
-/
import Derived.Deep.CutBlock
import Derived.Test.YtidihdiffiffmaaGreatDoorProcMakesP2
namespace Go.Proofs.YtidihdiffiffmaaGreatDoor
open Go.RowKit
set_option maxRecDepth 8000
set_option linter.unusedSimpArgs false
set_option linter.unusedVariables false
def wclT (x : Int) : List Value := [.int .i64 x]
theorem wd_okT : ElemOk 2 34 1 wclT :=
 ⟨Tryz.underlying34, by
  obtain ⟨i, h1, h2, h3, h4⟩ := info_of (e := 2) (z := .int .i64 0) (sz := 1) (b := 8) (by kernel_rfl)
  exact ⟨i, _, _, h1, h2, h3, h4, rfl, by omega⟩, by omega, fun _ => rfl, fun x u hu => by simp [wclT] at hu; subst hu; rfl⟩
theorem grs_row {W : World} {a : Option Addr} {l : List Gr} (h : GrsAt W a l) : RowAt 2 gcl W a l := fun j g hg => by
 obtain ⟨y, hy, h1, h2⟩ := h j g hg
 refine ⟨y, hy, fun i hi => ?_⟩
 match i, hi with
 | 0, _ => exact h1
 | 1, _ => rw [add_off _ _ 1 (by decide)]; exact h2
theorem row_grs {W : World} {a : Option Addr} {l : List Gr} (h : RowAt 2 gcl W a l) : GrsAt W a l := fun j q hq => by
 obtain ⟨y, hy, hc⟩ := h j q hq
 have h1 := hc 1 (by omega)
 rw [add_off _ _ 1 (by decide)] at h1
 exact ⟨y, hy, by simpa [gcl] using hc 0 (by omega), h1⟩
theorem wrds_row {W : World} {a : Option Addr} {l : List Int} (h : WrdsAt W a l) : RowAt 1 wclT W a l := fun j q hq => by
 obtain ⟨y, hy, h1⟩ := h j q hq
 refine ⟨y, hy, fun i hi => ?_⟩
 obtain rfl : i = 0 := by omega
 simpa [wclT] using h1
theorem row_wrds {W : World} {a : Option Addr} {l : List Int} (h : RowAt 1 wclT W a l) : WrdsAt W a l := fun j q hq => by
 obtain ⟨y, hy, hc⟩ := h j q hq
 refine ⟨y, hy, ?_⟩
 simpa [wclT] using hc 0 (by omega)
set_option maxHeartbeats 1000000 in
theorem copiedG_any (a : Option Addr) (cap : Nat) (l : List Gr) (w : World) (hn : l.length ≤ 1000) (h : GrsAt w a l) :
    Calls Tryz.prog 141 #[.slice a l.length cap] w fun e w' => e = .returned (.slice (some ⟨w.heap.size, 0, none⟩) l.length l.length) ∧ GrsAt w' (some ⟨w.heap.size, 0, none⟩) l ∧ w.heap.size < w'.heap.size ∧ Below w.heap.size w w' := by
 obtain ⟨n, hl⟩ : ∃ n, l.length = n := ⟨_, rfl⟩
 rw [hl] at hn ⊢
 obtain ⟨W1, W2, hmk, hcp, hr, hlt, hB⟩ := copied_run gr_okT l n hl a cap w hn (grs_row h) 3
 replace hr := row_grs hr
 clear hl
 go_enter Tryz.func141, Tryz.ntmps141
 go_wp2_with fail
 go_ret
 exact ⟨rfl, hr, hlt, hB⟩
set_option maxHeartbeats 1000000 in
theorem copiedW_any (a : Option Addr) (cap : Nat) (l : List Int) (w : World) (hn : l.length ≤ 1000) (h : WrdsAt w a l) :
    Calls Tryz.prog 142 #[.slice a l.length cap] w fun e w' => e = .returned (.slice (some ⟨w.heap.size, 0, none⟩) l.length l.length) ∧ WrdsAt w' (some ⟨w.heap.size, 0, none⟩) l ∧ w.heap.size < w'.heap.size ∧ Below w.heap.size w w' := by
 obtain ⟨n, hl⟩ : ∃ n, l.length = n := ⟨_, rfl⟩
 rw [hl] at hn ⊢
 obtain ⟨W1, W2, hmk, hcp, hr, hlt, hB⟩ := copied_run wd_okT l n hl a cap w hn (wrds_row h) 3
 replace hr := row_wrds hr
 clear hl
 go_enter Tryz.func142, Tryz.ntmps142
 go_wp2_with fail
 go_ret
 exact ⟨rfl, hr, hlt, hB⟩
def PN.Few (x : PN) : Prop := x.n.acl.length ≤ 1000 ∧ x.n.words.length ≤ 1000
theorem GrsAt.same {W W' : World} {g : Nat} {l : List Gr} (h : GrsAt W (some ⟨g, 0, none⟩) l) (hb : W'.heap[g]? = W.heap[g]?) : GrsAt W' (some ⟨g, 0, none⟩) l := row_grs fun j q hq => by
 obtain ⟨y, hy, hc⟩ := grs_row h j q hq
 obtain rfl := Option.some.inj hy
 refine ⟨_, rfl, fun i hi => ?_⟩
 rw [add_at] at *
 rw [← hc i hi, add_at]
 exact World.cell?_of_block (a := ⟨g, j * 2 + i, none⟩) hb
theorem WrdsAt.same {W W' : World} {g : Nat} {l : List Int} (h : WrdsAt W (some ⟨g, 0, none⟩) l) (hb : W'.heap[g]? = W.heap[g]?) : WrdsAt W' (some ⟨g, 0, none⟩) l := row_wrds fun j q hq => by
 obtain ⟨y, hy, hc⟩ := wrds_row h j q hq
 obtain rfl := Option.some.inj hy
 refine ⟨_, rfl, fun i hi => ?_⟩
 rw [add_at] at *
 rw [← hc i hi, add_at]
 exact World.cell?_of_block (a := ⟨g, j * 1 + i, none⟩) hb
def InBlk (a : Option Addr) (P : Nat → Prop) : Prop := a = none ∨ ∃ g, a = some ⟨g, 0, none⟩ ∧ P g
theorem InBlk.imp {a : Option Addr} {P Q : Nat → Prop} (h : InBlk a P) (k : ∀ g, P g → Q g) : InBlk a Q := by
 rcases h with h | ⟨g, h, hp⟩
 ·exact .inl h
 ·exact .inr ⟨g, h, k g hp⟩
theorem grs_keep {W W' : World} {a : Option Addr} {l : List Gr} (h : GrsAt W a l) (hb : InBlk a fun g => W'.heap[g]? = W.heap[g]?) : GrsAt W' a l := by
 rcases hb with rfl | ⟨g, rfl, hb⟩
 ·intro j q hq
  obtain ⟨y, hy, _⟩ := h j q hq
  cases hy
 ·exact h.same hb
theorem wrds_keep {W W' : World} {a : Option Addr} {l : List Int} (h : WrdsAt W a l) (hb : InBlk a fun g => W'.heap[g]? = W.heap[g]?) : WrdsAt W' a l := by
 rcases hb with rfl | ⟨g, rfl, hb⟩
 ·intro j q hq
  obtain ⟨y, hy, _⟩ := h j q hq
  cases hy
 ·exact h.same hb
def PN.Own (y : PN) (b : Nat) (W : World) : Prop := InBlk y.aa (fun g => b ≤ g ∧ g < W.heap.size) ∧ InBlk y.wa (fun g => b ≤ g ∧ g < W.heap.size)
theorem PN.At.cells {y : PN} {W : World} {b g : Nat} {W0 : World} (h : y.At W) (ho : y.Own b W0) (hg : g < b) (o : Nat) (vs : List Value) : y.At (W.setCells g o vs) :=
 ⟨grs_keep h.g (ho.1.imp fun k hk => heap_setCells_other (b := g) (k := k) (by omega) vs o W), wrds_keep h.w (ho.2.imp fun k hk => heap_setCells_other (b := g) (k := k) (by omega) vs o W)⟩
def PN.Apart (y : PN) (W : World) (v : Value) : Prop := InBlk y.aa (fun g => g < W.heap.size ∧ some g ≠ v.ownBlock) ∧ InBlk y.wa (fun g => g < W.heap.size ∧ some g ≠ v.ownBlock)
theorem PN.Apart.size {y : PN} {W W' : World} {v : Value} (h : y.Apart W v) (b : W.heap.size ≤ W'.heap.size) : y.Apart W' v := ⟨h.1.imp fun g hg => ⟨by omega, hg.2⟩, h.2.imp fun g hg => ⟨by omega, hg.2⟩⟩
theorem PN.Own.apart {y : PN} {W W' : World} {b : Nat} {v : Value} (h : y.Own b W) (hv : ∀ k, v.ownBlock = some k → k < b) : y.Apart W v :=
 ⟨h.1.imp fun g hg => ⟨hg.2, fun e => by have := hv _ e.symm; omega⟩, h.2.imp fun g hg => ⟨hg.2, fun e => by have := hv _ e.symm; omega⟩⟩
theorem PN.Own.lower {y : PN} {W W' : World} {b c : Nat} (h : y.Own b W) (hc : c ≤ b) (hs : W.heap.size ≤ W'.heap.size) : y.Own c W' := ⟨h.1.imp fun g hg => ⟨by omega, by omega⟩, h.2.imp fun g hg => ⟨by omega, by omega⟩⟩
set_option maxRecDepth 8000 in
set_option maxHeartbeats 2000000 in
theorem own_any (x : PN) (hx : x.Few) (w : World) (h : x.At w) :
    Calls Tryz.prog 110 #[.agg x.cs.toArray] w fun e w' => ∃ y : PN, e = .returned (.agg y.cs.toArray) ∧ y.n = x.n ∧ y.At w' ∧ y.Own w.heap.size w' ∧ Below w.heap.size w w' := by
 have hund := Tryz.underlying36
 have hsz : (Tryz.prog.info? 36).map (·.size) = some 16 := by kernel_rfl
 have hcs : x.cs = [.string x.n.path, .bool x.n.dir, .int .i64 x.n.label.s, .int .i64 x.n.label.c, .int .i64 x.n.label.i, .int .i64 x.n.label.k, .slice x.aa x.n.acl.length x.ca, .int .i64 x.n.r1, .int .i64 x.n.r2, .int .i64 x.n.r3, .int .i64 x.n.gates, .slice x.wa x.n.words.length x.cw, .int .i64 x.n.by_.s, .int .i64 x.n.by_.c, .int .i64 x.n.by_.i, .int .i64 x.n.by_.k] := rfl
 have hb0 := blkl_alloc w x.cs.toArray 36
 have hB0 := alloc_below w (.cells x.cs.toArray 36)
 have hz0 := World.size_alloc w (.cells x.cs.toArray 36)
 have hb1 := blkl_alloc (w.alloc (.cells x.cs.toArray 36)) #[.string ⟨#[]⟩, .bool false, .int .i64 0, .int .i64 0, .int .i64 0, .int .i64 0, .slice none 0 0, .int .i64 0, .int .i64 0, .int .i64 0, .int .i64 0, .slice none 0 0, .int .i64 0, .int .i64 0, .int .i64 0, .int .i64 0] 36
 have hB1 := alloc_below (w.alloc (.cells x.cs.toArray 36)) (.cells #[.string ⟨#[]⟩, .bool false, .int .i64 0, .int .i64 0, .int .i64 0, .int .i64 0, .slice none 0 0, .int .i64 0, .int .i64 0, .int .i64 0, .int .i64 0, .slice none 0 0, .int .i64 0, .int .i64 0, .int .i64 0, .int .i64 0] 36)
 have hz1 := World.size_alloc (w.alloc (.cells x.cs.toArray 36)) (.cells #[.string ⟨#[]⟩, .bool false, .int .i64 0, .int .i64 0, .int .i64 0, .int .i64 0, .slice none 0 0, .int .i64 0, .int .i64 0, .int .i64 0, .int .i64 0, .slice none 0 0, .int .i64 0, .int .i64 0, .int .i64 0, .int .i64 0] 36)
 rw [hz0] at hb1 hz1
 have hb0' := stab_blk _ _ _ _ hb0 hB1
 have hB01 := Below.then hB0 hB1
 clear hb0 hB0 hz0 hB1
 rw [hcs] at hb0' hb1 hz1 hB01 ⊢
 go_enter Tryz.func110, Tryz.ntmps110
 go_wp2_with fail
 generalize (w.alloc (.cells ([.string x.n.path, .bool x.n.dir, .int .i64 x.n.label.s, .int .i64 x.n.label.c, .int .i64 x.n.label.i, .int .i64 x.n.label.k, .slice x.aa x.n.acl.length x.ca, .int .i64 x.n.r1, .int .i64 x.n.r2, .int .i64 x.n.r3, .int .i64 x.n.gates, .slice x.wa x.n.words.length x.cw, .int .i64 x.n.by_.s, .int .i64 x.n.by_.c, .int .i64 x.n.by_.i, .int .i64 x.n.by_.k]).toArray 36)).alloc (.cells #[.string ⟨#[]⟩, .bool false, .int .i64 0, .int .i64 0, .int .i64 0, .int .i64 0, .slice none 0 0, .int .i64 0, .int .i64 0, .int .i64 0, .int .i64 0, .slice none 0 0, .int .i64 0, .int .i64 0, .int .i64 0, .int .i64 0] 36) = W at *
 refine (copiedG_any x.aa x.ca x.n.acl W hx.1 (h.g.below hB01)).mono ?_
 rintro e W2 ⟨rfl, hg2, hlt, hB2⟩
 have hB02 := Below.then hB01 hB2
 have hk2 := stab_blk _ _ _ _ hb0' hB2
 have hm2 := stab_blk _ _ _ _ hb1 hB2
 have hga : w.heap.size + 2 ≤ W.heap.size := by omega
 have hB2g : W.heap.size < W2.heap.size := hlt
 generalize W.heap.size = ga at *
 clear hb0' hb1 hB01 hB2 hz1
 have k6 := hk2.1 6 _ rfl
 obtain ⟨k61, k62⟩ := k6
 have k11 := (hk2.1 11 _ rfl).1
 have hk3 := hk2.1.set 6 (.slice (some ⟨ga, 0, none⟩) x.n.acl.length x.n.acl.length) (by simp)
 have hm3 := hm2.1.same (heap_setCell_other W2 ⟨w.heap.size, 6, none⟩ (w.heap.size + 1) (.slice (some ⟨ga, 0, none⟩) x.n.acl.length x.n.acl.length) (by simp))
 have hg3 := hg2.same (heap_setCell_other W2 ⟨w.heap.size, 6, none⟩ ga (.slice (some ⟨ga, 0, none⟩) x.n.acl.length x.n.acl.length) (by show ga ≠ w.heap.size; omega))
 have hB03 := hB02.setCell (p := ⟨w.heap.size, 6, none⟩) (Nat.le_refl _) (.slice (some ⟨ga, 0, none⟩) x.n.acl.length x.n.acl.length)
 have hz3 : (W2.setCell ⟨w.heap.size, 6, none⟩ (.slice (some ⟨ga, 0, none⟩) x.n.acl.length x.n.acl.length)).heap.size = W2.heap.size := by simp
 have hlt3 : ga < W2.heap.size := hB2g
 go_wp2_with fail
 generalize W2.setCell ⟨w.heap.size, 6, none⟩ (.slice (some ⟨ga, 0, none⟩) x.n.acl.length x.n.acl.length) = W3 at *
 clear hk2 hm2 hg2 hB02 k61 k62 k11
 refine (copiedW_any x.wa x.cw x.n.words W3 hx.2 (h.w.below hB03)).mono ?_
 rintro e W4 ⟨rfl, hw4, hltw, hB4⟩
 have hB04 := Below.then hB03 hB4
 have hk4 := hk3.same (hB4.block _ (by omega))
 have hm4 := hm3.same (hB4.block _ (by omega))
 have hg4 := hg3.same (hB4.block _ (by omega))
 have hgw : ga < W3.heap.size := by omega
 have hwg2 : w.heap.size + 2 ≤ W3.heap.size := by omega
 clear hk3 hm3 hg3 hB03 hz3
 generalize W3.heap.size = gw at *
 have hk5 := hk4.set 11 (.slice (some ⟨gw, 0, none⟩) x.n.words.length x.n.words.length) (by simp)
 have hm5 := hm4.same (heap_setCell_other W4 ⟨w.heap.size, 11, none⟩ (w.heap.size + 1) (.slice (some ⟨gw, 0, none⟩) x.n.words.length x.n.words.length) (by simp))
 have hg5 := hg4.same (heap_setCell_other W4 ⟨w.heap.size, 11, none⟩ ga (.slice (some ⟨gw, 0, none⟩) x.n.words.length x.n.words.length) (by show ga ≠ w.heap.size; omega))
 have hw5 := hw4.same (heap_setCell_other W4 ⟨w.heap.size, 11, none⟩ gw (.slice (some ⟨gw, 0, none⟩) x.n.words.length x.n.words.length) (by show gw ≠ w.heap.size; omega))
 have hB05 := hB04.setCell (p := ⟨w.heap.size, 11, none⟩) (Nat.le_refl _) (.slice (some ⟨gw, 0, none⟩) x.n.words.length x.n.words.length)
 obtain ⟨k111, k112⟩ := hk4 11 _ rfl
 obtain ⟨y, hy⟩ : ∃ y : PN, y = ⟨x.n, some ⟨ga, 0, none⟩, x.n.acl.length, some ⟨gw, 0, none⟩, x.n.words.length⟩ := ⟨_, rfl⟩
 have hyc : ((([.string x.n.path, .bool x.n.dir, .int .i64 x.n.label.s, .int .i64 x.n.label.c, .int .i64 x.n.label.i, .int .i64 x.n.label.k, .slice x.aa x.n.acl.length x.ca, .int .i64 x.n.r1, .int .i64 x.n.r2, .int .i64 x.n.r3, .int .i64 x.n.gates, .slice x.wa x.n.words.length x.cw, .int .i64 x.n.by_.s, .int .i64 x.n.by_.c, .int .i64 x.n.by_.i, .int .i64 x.n.by_.k]).set 6 (.slice (some ⟨ga, 0, none⟩) x.n.acl.length x.n.acl.length)).set 11 (.slice (some ⟨gw, 0, none⟩) x.n.words.length x.n.words.length)) = y.cs := by rw [hy]; rfl
 rw [hyc] at hk5
 have hrow := hk5.range
 obtain ⟨W5, hW5⟩ : ∃ W5, W4.setCell ⟨w.heap.size, 11, none⟩ (.slice (some ⟨gw, 0, none⟩) x.n.words.length x.n.words.length) = W5 := ⟨_, rfl⟩
 rw [hW5] at hm5 hg5 hw5 hB05 hrow
 have hth : W5.there (w.heap.size + 1) 0 y.cs.length := hm5.there
 have hk6 := hm5.setAll (cs := y.cs) rfl
 have hB06 : Below w.heap.size w (W5.setCells (w.heap.size + 1) 0 y.cs) := Below.cells (by omega) y.cs 0 hB05
 have hg6 := hg5.same (heap_setCells_other (b := w.heap.size + 1) (k := ga) (by omega) y.cs 0 W5)
 have hw6 := hw5.same (heap_setCells_other (b := w.heap.size + 1) (k := gw) (by omega) y.cs 0 W5)
 obtain ⟨W6, hW6⟩ : ∃ W6, W5.setCells (w.heap.size + 1) 0 y.cs = W6 := ⟨_, rfl⟩
 rw [hW6] at hk6 hB06 hg6 hw6
 have hyn : y.n = x.n := by rw [hy]
 have hs6 : W4.heap.size ≤ W6.heap.size := by rw [← hW6, ← hW5]; exact (Below.cells (Nat.zero_le _) y.cs 0 ((Below.refl 0 W4).setCell (p := ⟨w.heap.size, 11, none⟩) (Nat.zero_le _) (.slice (some ⟨gw, 0, none⟩) x.n.words.length x.n.words.length))).size
 have hyo : y.Own w.heap.size W6 := by rw [hy]; exact ⟨.inr ⟨ga, rfl, by omega, by omega⟩, .inr ⟨gw, rfl, by omega, by omega⟩⟩
 have hya : y.At W6 := by rw [hy]; exact ⟨hg6, hw6⟩
 clear hy hyc hcs hk4 hm4 hg4 hw4 hB04 hk5 hm5 hg5 hw5 hB05 hB4 hg6 hw6
 go_wp2_with (first | (refine wpList_load_row rfl _ rfl w.heap.size rfl y.cs hrow hund rfl hsz ?_) | (refine wpList_store_row rfl _ _ rfl (w.heap.size + 1) rfl y.cs rfl hth hsz (pn_one y) hW6 ?_) | fail)
 refine bodyPost_ret (v := .agg y.cs.toArray) (results_row1 rfl _ _ (w.heap.size + 1) rfl y.cs hk6.range hund rfl hsz) rfl ?_
 exact ⟨y, rfl, hyn, hya, hyo, hB06⟩
end Go.Proofs.YtidihdiffiffmaaGreatDoor
namespace Go.Proofs.YtidihdiffiffmaaGreatDoor
open Go.RowKit
set_option maxRecDepth 8000
set_option linter.unusedSimpArgs false
set_option linter.unusedVariables false
theorem OwnR.set {α : Type} {e : TypeId} {sz : Nat} {f : α → List Value} {w : World} {base g j : Nat} {v u : Value} {l : List α} (h : OwnR e sz f w base v l) (hg : v.ownBlock ≠ some g) : OwnR e sz f (w.setCell ⟨g, j, none⟩ u) base v l :=
 h.keep fun k hk => heap_setCell_other _ ⟨g, j, none⟩ k _ (fun q => hg (by rw [hk, q]))
abbrev mzero : Array Value := #[.slice none 0 0, .bool false, .int .i64 0, .int .i64 0, .int .i64 0, .int .i64 0, .slice none 0 0, .int .i64 0, .int .i64 0, .int .i64 0, .int .i64 0, .slice none 0 0, .int .i64 0, .int .i64 0, .int .i64 0, .int .i64 0]
abbrev nzT : Array Value := #[.string ⟨#[]⟩, .bool false, .int .i64 0, .int .i64 0, .int .i64 0, .int .i64 0, .slice none 0 0, .int .i64 0, .int .i64 0, .int .i64 0, .int .i64 0, .slice none 0 0, .int .i64 0, .int .i64 0, .int .i64 0, .int .i64 0]
theorem pm_len (x : PM) : x.cs.length = 16 := rfl
theorem pm_one (x : PM) : ∀ v ∈ x.cs, v.oneCell' = true := by
 intro v hv
 unfold PM.cs at hv
 simp only [List.mem_cons, List.not_mem_nil, or_false] at hv
 rcases hv with rfl | rfl | rfl | rfl | rfl | rfl | rfl | rfl | rfl | rfl | rfl | rfl | rfl | rfl | rfl | rfl <;> rfl
theorem mkPath_size (m : Mk) : (mkPath m).size ≤ 78 := by
 obtain ⟨_, _, _, h⟩ := check_path (check_names (mkPath_names m))
 exact h
theorem mkOf_any (x : PM) (W : World) (h : x.At W) : Calls Tryz.prog 46 #[.slice x.pa x.m.path.length x.pc] W fun e w' => e = .returned (.string (mkPath x.m)) ∧ Below W.heap.size W w' := by
 refine of_any x.pa x.m.path _ x.pc W rfl (fun j hj => ?_) (fun j => ?_)
 ·have hq : x.m.path[j]? = some x.m.path[j] := List.getElem?_eq_getElem hj
  obtain ⟨y, hy, hc⟩ := h.p j _ hq
  refine ⟨y, hy, ?_⟩
  have := hc 0 (by decide)
  rw [List.getD_eq_getElem?_getD, hq]
  simpa [icell] using this
 ·by_cases hj : j < x.m.path.length
  ·have hq : x.m.path[j]? = some x.m.path[j] := List.getElem?_eq_getElem hj
   rw [List.getD_eq_getElem?_getD, hq]
   exact h.f _ (List.getElem_mem hj)
  ·rw [List.getD_eq_getElem?_getD, List.getElem?_eq_none (by omega)]
   decide
def PN.Abv (B : Nat) (x : PN) : Prop := (∀ y, x.aa = some y → B ≤ y.block) ∧ ∀ y, x.wa = some y → B ≤ y.block
theorem own_abv {α : Type} {e : TypeId} {sz : Nat} {f : α → List Value} {W : World} {B n c : Nat} {aa : Option Addr} {l : List α} (h : OwnR e sz f W B (.slice aa n c) l) : ∀ y, aa = some y → B ≤ y.block := fun y hy => by
 rcases h.2 with ⟨h1, _⟩ | ⟨g, cap, cur, hv, hb, _⟩
 ·rw [hy] at h1
  cases h1
 ·rw [hy] at hv
  injection hv with e1
  obtain rfl := Option.some.inj e1
  exact hb
theorem first_abv (L : List Lab) (g B : Nat) (h : B ≤ g) : ∀ x ∈ firstP L L.length (some ⟨g, 0, none⟩), PN.Abv B x := by
 intro x hx
 unfold firstP at hx
 obtain ⟨n, hn, rfl⟩ := List.mem_map.1 hx
 exact ⟨fun y hy => (by obtain rfl := Option.some.inj hy; exact h), fun y hy => (by cases hy)⟩
structure GI (w W : World) (v : Value) (l : List PN) : Prop where
 o : OwnN W w.heap.size v l
 p : ∀ x ∈ l, x.At W
 b : Below w.heap.size w W
 a : ∀ x ∈ l, PN.Abv w.heap.size x
theorem GI.then {w W W' : World} {v : Value} {l : List PN} (h : GI w W v l) (b : Below W.heap.size W W') : GI w W' v l := ⟨h.o.below b, fun x hx => (h.p x hx).below b, Below.then h.b b, h.a⟩
theorem first_at (L : List Lab) (a : Option Addr) (W : World) (h : GrsAt W a allG) : ∀ x ∈ firstP L L.length a, x.At W := by
 intro x hx
 unfold firstP at hx
 obtain ⟨n, hn, rfl⟩ := List.mem_map.1 hx
 have ha : n.acl = allG ∧ n.words = [] := by
  unfold firstTo at hn
  rcases List.mem_cons.1 hn with rfl | hn
  ·exact ⟨rfl, rfl⟩
  ·obtain ⟨k, hk, rfl⟩ := List.mem_mapIdx.1 hn
   exact ⟨rfl, rfl⟩
 exact ⟨by rw [ha.1]; exact h, by rw [ha.2]; intro j q hq; simp at hq⟩
def nod0 (d : Nod) (m : Mk) : Nod := ⟨mkPath m, m.dir, d.label, aclOf m.acl, 0, 0, 0, 0, [], goodL m.by_⟩
structure G4 (w W : World) (v : Value) (l : List PN) (x : PM) (bm : Nat) (d : PN) (bd : Nat) : Prop where
 g : GI w W v l
 xa : x.At W
 mb : BlkL bm x.cs W
 db : BlkL bd d.cs W
theorem G4.then {w W W' : World} {v : Value} {l : List PN} {x : PM} {bm : Nat} {d : PN} {bd : Nat} (h : G4 w W v l x bm d bd) (b : Below W.heap.size W W') : G4 w W' v l x bm d bd := ⟨h.g.then b, h.xa.below b, stab_blk _ _ _ _ h.mb b, stab_blk _ _ _ _ h.db b⟩
theorem blk_at {W : World} {b o : Nat} {vs cs : List Value} (h : Blk W b vs) (hc : ∀ j v, cs[j]? = some v → vs[o + j]? = some v) : CellsAt W ⟨b, o, none⟩ cs := fun j v hv => by
 have := (h (o + j) v (hc j v hv)).1
 by_cases hj : j = 0
 ·subst hj; simpa [Addr.add] using this
 ·simpa [Addr.add, hj] using this
theorem blk_four {W : World} {b o : Nat} {vs : List Value} {a0 a1 a2 a3 : Value} (h : Blk W b vs) (h0 : vs[o]? = some a0) (h1 : vs[o + 1]? = some a1) (h2 : vs[o + 2]? = some a2) (h3 : vs[o + 3]? = some a3) : CellsAt W ⟨b, o, none⟩ [a0, a1, a2, a3] := blk_at h fun j v hv => by
 match j, hv with
 | 0, hv => rw [← hv]; exact h0
 | 1, hv => rw [← hv]; exact h1
 | 2, hv => rw [← hv]; exact h2
 | 3, hv => rw [← hv]; exact h3
 | j + 4, hv => simp at hv
theorem boolG_load (w : World) (y : Addr) (v : Value) (h : w.cell? y = some v) : (Instr.loadAt 4 (.pointer (some y))).run Tryz.prog w = .ok v w := by
 have h1 := Tryz.underlying4
 go_simp
theorem grs_load (w : World) (y : Addr) (v : Value) (h : w.cell? y = some v) : (Instr.loadAt 31 (.pointer (some y))).run Tryz.prog w = .ok v w := by
 have h1 := Tryz.underlying31
 go_simp
theorem wds_load (w : World) (y : Addr) (v : Value) (h : w.cell? y = some v) : (Instr.loadAt 34 (.pointer (some y))).run Tryz.prog w = .ok v w := by
 have h1 := Tryz.underlying34
 go_simp
theorem i64_load (w : World) (y : Addr) (v : Value) (h : w.cell? y = some v) : (Instr.loadAt 2 (.pointer (some y))).run Tryz.prog w = .ok v w := by
 have h1 := Tryz.underlying2
 go_simp
section
variable {ops : Array Oper} {o : Oper} {a : Act} {w : World} {Q : Exit → Act → World → Prop}
theorem step_store_rowT {T : TypeId} {K : Act → World → Prop} {E : Prop} {W : World} (hg : o.guard = none) (x y : Operand) (ho : o.op = .store T x y) (b : Nat) (hx : a.eval x = .pointer (some ⟨b, 0, none⟩)) (cs : List Value) (hy : a.eval y = .agg cs.toArray)
    (ht : w.there b 0 cs.length) (hi : (Tryz.prog.info? T).map (·.size) = some cs.length) (h1 : ∀ v ∈ cs, v.oneCell' = true) (hW : w.setCells b 0 cs = W) (hK : K (a.put o.dst undef) W) :
    if Region.wanted o (yielded ops a.tmps) = true then Oper.wp Tryz.prog o a w K Q else E := by
 have hw : Region.wanted o (yielded ops a.tmps) = true := by simp [Region.wanted, hg]
 rw [if_pos hw]
 exact wp_store_mid T x y ho b 0 cs.toArray hx hy ht hi (all_oneCell_toArray h1) (hW ▸ hK)
end
def cellsW (n : Nod) (aa : Option Addr) (ca : Nat) (v : Value) : List Value := [.string n.path, .bool n.dir, .int .i64 n.label.s, .int .i64 n.label.c, .int .i64 n.label.i, .int .i64 n.label.k, .slice aa n.acl.length ca, .int .i64 n.r1, .int .i64 n.r2, .int .i64 n.r3, .int .i64 n.gates, v, .int .i64 n.by_.s, .int .i64 n.by_.c, .int .i64 n.by_.i, .int .i64 n.by_.k]
structure GW (Z W : World) (bn : Nat) (n : Nod) (aa : Option Addr) (ca : Nat) (v : Value) (ws : List Int) : Prop where
 o : OwnR 2 1 wclT W Z.heap.size v ws
 b : Below Z.heap.size Z W
 n0 : Z.heap.size ≤ bn
 a : OwnGr W Z.heap.size (.slice aa n.acl.length ca) n.acl
 ne : (Value.slice aa n.acl.length ca).ownBlock ≠ some bn
 nv : v.ownBlock ≠ some bn
 na : ∀ g, (Value.slice aa n.acl.length ca).ownBlock = some g → v.ownBlock ≠ some g
 k : BlkL bn (cellsW n aa ca v) W
section
variable {Z W W' : World} {bn ca : Nat} {n : Nod} {aa : Option Addr} {v v' : Value} {ws ws' : List Int}
theorem GW.then (h : GW Z W bn n aa ca v ws) (b : Below W.heap.size W W') : GW Z W' bn n aa ca v ws := ⟨h.o.below b, Below.then h.b b, h.n0, h.a.below b, h.ne, h.nv, h.na, stab_blk _ _ _ _ h.k b⟩
theorem GW.push (h : GW Z W bn n aa ca v ws) (hg : Grew W v W' v') (ho : OwnR 2 1 wclT W' Z.heap.size v' ws') : BlkL bn (cellsW n aa ca v) W' ∧ Below Z.heap.size Z W' ∧ GW Z (W'.setCell ⟨bn, 11, none⟩ v') bn n aa ca v' ws' := by
 have hb : Below Z.heap.size Z W' := h.b.trans (h.o.grew_below h.b.size hg)
 have hk : BlkL bn (cellsW n aa ca v) W' := ⟨h.k.1.same (hg.by_.block _ h.k.2 (fun e => h.nv e.symm)), Nat.lt_of_lt_of_le h.k.2 hg.by_.size⟩
 have hnv : v'.ownBlock ≠ some bn := fun e => hg.apart h.k.2 (fun e => h.nv e.symm) e.symm
 have ha : OwnGr W' Z.heap.size (.slice aa n.acl.length ca) n.acl := h.a.keep fun g hgg => hg.by_.block _ (h.a.lt hgg).2 (fun e => h.na g hgg e.symm)
 refine ⟨hk, hb, ho.set hnv, hb.setCell (p := ⟨bn, 11, none⟩) h.n0 _, h.n0, ha.set h.ne, h.ne, hnv, fun g hgg e => hg.apart (h.a.lt hgg).2 (fun e => h.na g hgg e.symm) e.symm, ⟨?_, by simpa using hk.2⟩⟩
 exact hk.1.set 11 v' (by simp [cellsW])
end
theorem put_len (l : List PN) (x : PN) : (putP l x).length ≤ l.length + 1 := by
 unfold putP
 have h1 : (dropP l x.n.path).length ≤ l.length := List.length_filter_le _ _
 have h2 := congrArg List.length (List.takeWhile_append_dropWhile (p := fun y : PN => lt y.n.path x.n.path) (l := dropP l x.n.path))
 rw [List.length_append] at h2 ⊢
 rw [List.length_cons]
 omega
theorem grown_GI {w W W' : World} {v v' : Value} {l : List PN} {y : PN} (g : GI w W v l) (hy : y.At W) (hya : PN.Abv w.heap.size y) (ho : OwnN W' W.heap.size v' (putP l y)) (hb : Below W.heap.size W W') : GI w W' v' (putP l y) := ⟨ho.lower g.b.size, fun x hx => by
 rcases put_sub hx with rfl | hx
 ·exact hy.below hb
 ·exact (g.p x hx).below hb, Below.then g.b hb, fun x hx => by
 rcases put_sub hx with rfl | hx
 ·exact hya
 ·exact g.a x hx⟩
set_option maxRecDepth 20000 in
set_option maxHeartbeats 8000000 in
theorem growB_any (ta : Option Addr) (ct : Nat) (ts : List Lab) (ma : Option Addr) (mc : Nat) (ms : List PM) (w : World) (hlr : RowAt 4 lrow w ta ts) (hmr : RowM w ma ms) :
    Calls Tryz.prog 27 #[.slice ta ts.length ct, .slice ma ms.length mc] w fun e w' => ∃ v l, e = .returned v ∧ OwnN w' w.heap.size v l ∧ (∀ x ∈ l, x.At w') ∧ namesP l = growN ts (ms.map (·.m)) ∧ Below w.heap.size w w' ∧ (∀ x ∈ l, PN.Abv w.heap.size x) := by
 have hsl : (Tryz.prog.info? 30).map (·.size) = some 4 := by kernel_rfl
 have hb0 := blk_alloc w #[.slice none 0 0, .slice none 0 0, .slice none 0 0] 90
 have hB0 := alloc_below w (.cells #[.slice none 0 0, .slice none 0 0, .slice none 0 0] 90)
 have hz0 := World.size_alloc w (.cells #[.slice none 0 0, .slice none 0 0, .slice none 0 0] 90)
 obtain ⟨n, hn⟩ : ∃ n, ts.length = n := ⟨_, rfl⟩
 rw [hn]
 replace hn : Aside (ts.length = n) := hn
 obtain ⟨R, hR⟩ : ∃ R, growN ts (ms.map (·.m)) = R := ⟨_, rfl⟩
 rw [hR]
 replace hR : Aside (growN ts (ms.map (·.m)) = R) := hR
 go_enter Tryz.func27, Tryz.ntmps27
 go_upto_block 0 with fail
 generalize w.alloc (.cells #[.slice none 0 0, .slice none 0 0, .slice none 0 0] 90) = W0 at *
 go_cut [] from 6 (fun wc => ∃ v, OwnR 30 4 lrow wc (w.heap.size + 1) v ((ts.take 4).map goodL) ∧ Blk wc w.heap.size [v, .slice none 0 0, .slice none 0 0] ∧ Below w.heap.size w wc ∧ w.heap.size + 1 ≤ wc.heap.size)
 case first =>
  go_wp2_with fail
  go_loopw [6] (fun t6 wr => ∃ i : Nat, i ≤ n ∧ i ≤ 4 ∧ t6 = .int .i64 (i : Int) ∧ ∃ v, OwnR 30 4 lrow wr (w.heap.size + 1) v ((ts.take i).map goodL) ∧ Blk wr w.heap.size [v, .slice none 0 0, .slice none 0 0] ∧ Below w.heap.size w wr ∧ w.heap.size + 1 ≤ wr.heap.size) (fun t6 _ => n - (Go.RowKit.intOf t6).toNat)
  case atStart => exact ⟨0, by omega, by omega, rfl, .slice none 0 0, OwnR.nil _ _ _ _ _, hb0, hB0, by omega⟩
  case round =>
   clear hb0 hB0 hz0
   obtain ⟨i, hi, hi4, rfl, v, ho, hk, hB, hz⟩ := hrel
   by_cases hlt : i < n ∧ i < 4
   ·obtain ⟨tt, hti⟩ : ∃ tt, ts[i]? = some tt := ⟨_, List.getElem?_eq_getElem (by rw [hn.out]; exact hlt.1)⟩
    obtain ⟨ya, rfl, -⟩ := hlr i tt hti
    have hmap : (ts.take (i + 1)).map goodL = (ts.take i).map goodL ++ [goodL tt] := by rw [List.take_add_one, hti]; simp
    have hlL : ((ts.take i).map goodL).length ≤ 4 := by simp; omega
    generalize (ts.take i).map goodL = L at *
    have hS0 : CellsAt wr.drew (ya.add (i * 4)) [.int .i64 tt.s, .int .i64 tt.c, .int .i64 tt.i, .int .i64 tt.k] := (hlr.below lab_ok.len hB).at lab_ok.len hti
    have hk0 : Blk wr.drew w.heap.size [v, .slice none 0 0, .slice none 0 0] := hk
    have ho0 : OwnR 30 4 lrow wr.drew (w.heap.size + 1) v L := ho
    have hz0 : w.heap.size + 1 ≤ wr.drew.heap.size := hz
    have hB0 : Below w.heap.size w wr.drew := hB.drew
    have i1 : (i : Int) < (n : Int) := by omega
    have i2 : (i : Int) < 4 := by omega
    obtain ⟨va, vc, hvv, -, -, -⟩ := OwnR.slice lab_ok.len ho
    subst hvv
    clear ho hk hB hz
    go_wp2_with fail
    refine wp_region_held_drew (S := (fun W => CellsAt W (ya.add (i * 4)) [.int .i64 tt.s, .int .i64 tt.c, .int .i64 tt.i, .int .i64 tt.k])) (by kernel_rfl) (by exact hS0) ?_
    intro hHeld
    generalize wr.drew = w0 at *
    refine tkA 0 ?_
    refine tkA 2 ?_
    refine tkA 3 ?_
    refine tkA 4 ?_
    refine tkB 5 (y := yields_at (by rfl) _ rfl _ rfl [.int .i64 tt.s, .int .i64 tt.c, .int .i64 tt.i, .int .i64 tt.k] (fun _ q => q) Tryz.underlying30 rfl hsl) (h := ?_)
    refine tkR (rs := [1, 6]) ?_
    refine tkC (fun K hK => ?_) ?_
    ·skip
     have hcf := (hk0 0 _ rfl).1
     go_simp
     refine hK.out _ _ (hS0) ?_
     clear hHeld hK
     intro hHeld
     obtain ⟨w1, hww⟩ : ∃ w', w' = w0 := ⟨_, rfl⟩
     subst hww
     have hS1 := hS0
     have hk1 := hk0
     have hz1 := hz0
     have ho1 := ho0
     have hB1 := hB0
     (try simp only [Act.put, zsA, zsB, zsC])
     refine tkR (rs := [6]) ?_
     refine tkC (fun K hK => ?_) AllReadyH.nil
     go_simp
     go_at_call 45
     refine (good_any tt _).mono ?_
     rintro e w2 ⟨rfl, hb⟩
     have hS2 := hS1.below hb
     have hk2 := hk1.same (hb.block _ (by omega))
     have hz2 := Nat.le_trans hz1 hb.size
     have ho2 := ho1.below hb
     have hB2 := Below.then hB1 hb
     refine hK.out _ _ (hS2) ?_
     clear hHeld hK
     intro hHeld
     (try simp only [Act.put, zsA, zsB, zsC])
     refine tkR (rs := [7]) ?_
     refine tkC (fun K hK => ?_) AllReadyH.nil
     refine step_build1 lab_ok (by decide) rfl _ rfl [.int .i64 (goodL tt).s, .int .i64 (goodL tt).c, .int .i64 (goodL tt).i, .int .i64 (goodL tt).k] rfl rfl ?_
     (try simp only [Act.put, zsA, zsB, zsC])
     refine hK.out _ _ (hS2.below (alloc_below _ _)) ?_
     clear hHeld hK
     intro hHeld
     obtain ⟨vz, wz, hap, hoz, hgz⟩ := OwnR.push lab_ok ho2 hz2 (goodL tt) [.int .i64 (goodL tt).s, .int .i64 (goodL tt).c, .int .i64 (goodL tt).i, .int .i64 (goodL tt).k].toArray rfl 30 (by omega)
     have hbz := ho2.grew_below hz2 hgz
     have hkz := hk2.same (hbz.block _ (by omega))
     have hzz := Nat.le_trans hz2 hbz.size
     have hBz := hB2.trans (hbz.mono (by omega))
     have hSz : CellsAt wz (ya.add (i * 4)) [.int .i64 tt.s, .int .i64 tt.c, .int .i64 tt.i, .int .i64 tt.k] := (hlr.below lab_ok.len hBz).at lab_ok.len hti
     have hS3 := hS2.below (alloc_below w2 (.cells [.int .i64 (goodL tt).s, .int .i64 (goodL tt).c, .int .i64 (goodL tt).i, .int .i64 (goodL tt).k].toArray 30))
     have hk3 := hk2.same ((alloc_below w2 (.cells [.int .i64 (goodL tt).s, .int .i64 (goodL tt).c, .int .i64 (goodL tt).i, .int .i64 (goodL tt).k].toArray 30)).block _ (by omega))
     have hz3 := Nat.le_trans hz2 (alloc_below w2 (.cells [.int .i64 (goodL tt).s, .int .i64 (goodL tt).c, .int .i64 (goodL tt).i, .int .i64 (goodL tt).k].toArray 30)).size
     have ho3 := ho2
     have hB3 := hB2
     obtain ⟨w3, hww⟩ : ∃ w', w2.alloc (.cells [.int .i64 (goodL tt).s, .int .i64 (goodL tt).c, .int .i64 (goodL tt).i, .int .i64 (goodL tt).k].toArray 30) = w' := ⟨_, rfl⟩
     rw [hww] at hS3 hk3 hz3 hap hHeld ⊢
     clear hww
     (try simp only [Act.put, zsA, zsB, zsC])
     refine tkR (rs := [8]) ?_
     refine tkC (fun K hK => ?_) AllReadyH.nil
     refine step_append rfl _ _ rfl rfl rfl rfl hap ?_
     (try simp only [Act.put, zsA, zsB, zsC])
     refine hK.out _ _ (hSz) ?_
     clear hHeld hK
     intro hHeld
     have hcz := hkz 0 _ rfl
     have hk2 := hkz.set 0 vz (by simp)
     have hoz2 := hoz.set (g := w.heap.size) (j := 0) (u := vz) (fun q => by have := (hoz.lt q).1; omega)
     have hB2 : Below w.heap.size w (wz.setCell ⟨w.heap.size, 0, none⟩ vz) := hBz.setCell (p := ⟨w.heap.size, 0, none⟩) (Nat.le_refl _) _
     have hz2 : w.heap.size + 1 ≤ (wz.setCell ⟨w.heap.size, 0, none⟩ vz).heap.size := by simpa using hzz
     have hS2 : CellsAt (wz.setCell ⟨w.heap.size, 0, none⟩ vz) (ya.add (i * 4)) [.int .i64 tt.s, .int .i64 tt.c, .int .i64 tt.i, .int .i64 tt.k] := (hlr.below lab_ok.len hB2).at lab_ok.len hti
     obtain ⟨av, cv, hvv, -, -, -⟩ := OwnR.slice lab_ok.len hoz
     generalize (L ++ [goodL tt]).length = lz at hvv
     subst hvv
     (try simp only [Act.put, zsA, zsB, zsC])
     refine tkA 9 ?_
     refine tkR (rs := [10]) ?_
     refine tkC (fun K hK => ?_) AllReadyH.nil
     go_simp
     refine hK.out _ _ (hS2) ?_
     clear hHeld hK
     intro hHeld
     (try simp only [Act.put, zsA, zsB, zsC])
     refine wpAnyH_done (by kernel_rfl) ?_ _
     go_wp2_with fail
     exact ⟨⟨i + 1, by omega, by omega, by simp, _, by rw [hmap]; exact hoz2, hk2, hB2, hz2⟩, by simp [Go.RowKit.intOf]; omega⟩
    refine tkC (fun K hK => ?_) AllReadyH.nil
    go_simp
    go_at_call 45
    refine (good_any tt _).mono ?_
    rintro e w1 ⟨rfl, hb⟩
    have hS1 := hS0.below hb
    have hk1 := hk0.same (hb.block _ (by omega))
    have hz1 := Nat.le_trans hz0 hb.size
    have ho1 := ho0.below hb
    have hB1 := Below.then hB0 hb
    refine hK.out _ _ (hS1) ?_
    clear hHeld hK
    intro hHeld
    (try simp only [Act.put, zsA, zsB, zsC])
    refine tkR (rs := [1, 7]) ?_
    refine tkC (fun K hK => ?_) ?_
    ·skip
     have hcf := (hk1 0 _ rfl).1
     go_simp
     refine hK.out _ _ (hS1) ?_
     clear hHeld hK
     intro hHeld
     obtain ⟨w2, hww⟩ : ∃ w', w' = w1 := ⟨_, rfl⟩
     subst hww
     have hS2 := hS1
     have hk2 := hk1
     have hz2 := hz1
     have ho2 := ho1
     have hB2 := hB1
     (try simp only [Act.put, zsA, zsB, zsC])
     refine tkR (rs := [7]) ?_
     refine tkC (fun K hK => ?_) AllReadyH.nil
     refine step_build1 lab_ok (by decide) rfl _ rfl [.int .i64 (goodL tt).s, .int .i64 (goodL tt).c, .int .i64 (goodL tt).i, .int .i64 (goodL tt).k] rfl rfl ?_
     (try simp only [Act.put, zsA, zsB, zsC])
     refine hK.out _ _ (hS2.below (alloc_below _ _)) ?_
     clear hHeld hK
     intro hHeld
     obtain ⟨vz, wz, hap, hoz, hgz⟩ := OwnR.push lab_ok ho2 hz2 (goodL tt) [.int .i64 (goodL tt).s, .int .i64 (goodL tt).c, .int .i64 (goodL tt).i, .int .i64 (goodL tt).k].toArray rfl 30 (by omega)
     have hbz := ho2.grew_below hz2 hgz
     have hkz := hk2.same (hbz.block _ (by omega))
     have hzz := Nat.le_trans hz2 hbz.size
     have hBz := hB2.trans (hbz.mono (by omega))
     have hSz : CellsAt wz (ya.add (i * 4)) [.int .i64 tt.s, .int .i64 tt.c, .int .i64 tt.i, .int .i64 tt.k] := (hlr.below lab_ok.len hBz).at lab_ok.len hti
     have hS3 := hS2.below (alloc_below w2 (.cells [.int .i64 (goodL tt).s, .int .i64 (goodL tt).c, .int .i64 (goodL tt).i, .int .i64 (goodL tt).k].toArray 30))
     have hk3 := hk2.same ((alloc_below w2 (.cells [.int .i64 (goodL tt).s, .int .i64 (goodL tt).c, .int .i64 (goodL tt).i, .int .i64 (goodL tt).k].toArray 30)).block _ (by omega))
     have hz3 := Nat.le_trans hz2 (alloc_below w2 (.cells [.int .i64 (goodL tt).s, .int .i64 (goodL tt).c, .int .i64 (goodL tt).i, .int .i64 (goodL tt).k].toArray 30)).size
     have ho3 := ho2
     have hB3 := hB2
     obtain ⟨w3, hww⟩ : ∃ w', w2.alloc (.cells [.int .i64 (goodL tt).s, .int .i64 (goodL tt).c, .int .i64 (goodL tt).i, .int .i64 (goodL tt).k].toArray 30) = w' := ⟨_, rfl⟩
     rw [hww] at hS3 hk3 hz3 hap hHeld ⊢
     clear hww
     (try simp only [Act.put, zsA, zsB, zsC])
     refine tkR (rs := [8]) ?_
     refine tkC (fun K hK => ?_) AllReadyH.nil
     refine step_append rfl _ _ rfl rfl rfl rfl hap ?_
     (try simp only [Act.put, zsA, zsB, zsC])
     refine hK.out _ _ (hSz) ?_
     clear hHeld hK
     intro hHeld
     have hcz := hkz 0 _ rfl
     have hk2 := hkz.set 0 vz (by simp)
     have hoz2 := hoz.set (g := w.heap.size) (j := 0) (u := vz) (fun q => by have := (hoz.lt q).1; omega)
     have hB2 : Below w.heap.size w (wz.setCell ⟨w.heap.size, 0, none⟩ vz) := hBz.setCell (p := ⟨w.heap.size, 0, none⟩) (Nat.le_refl _) _
     have hz2 : w.heap.size + 1 ≤ (wz.setCell ⟨w.heap.size, 0, none⟩ vz).heap.size := by simpa using hzz
     have hS2 : CellsAt (wz.setCell ⟨w.heap.size, 0, none⟩ vz) (ya.add (i * 4)) [.int .i64 tt.s, .int .i64 tt.c, .int .i64 tt.i, .int .i64 tt.k] := (hlr.below lab_ok.len hB2).at lab_ok.len hti
     obtain ⟨av, cv, hvv, -, -, -⟩ := OwnR.slice lab_ok.len hoz
     generalize (L ++ [goodL tt]).length = lz at hvv
     subst hvv
     (try simp only [Act.put, zsA, zsB, zsC])
     refine tkA 9 ?_
     refine tkR (rs := [10]) ?_
     refine tkC (fun K hK => ?_) AllReadyH.nil
     go_simp
     refine hK.out _ _ (hS2) ?_
     clear hHeld hK
     intro hHeld
     (try simp only [Act.put, zsA, zsB, zsC])
     refine wpAnyH_done (by kernel_rfl) ?_ _
     go_wp2_with fail
     exact ⟨⟨i + 1, by omega, by omega, by simp, _, by rw [hmap]; exact hoz2, hk2, hB2, hz2⟩, by simp [Go.RowKit.intOf]; omega⟩
    refine tkC (fun K hK => ?_) AllReadyH.nil
    refine step_build1 lab_ok (by decide) rfl _ rfl [.int .i64 (goodL tt).s, .int .i64 (goodL tt).c, .int .i64 (goodL tt).i, .int .i64 (goodL tt).k] rfl rfl ?_
    (try simp only [Act.put, zsA, zsB, zsC])
    refine hK.out _ _ (hS1.below (alloc_below _ _)) ?_
    clear hHeld hK
    intro hHeld
    obtain ⟨vz, wz, hap, hoz, hgz⟩ := OwnR.push lab_ok ho1 hz1 (goodL tt) [.int .i64 (goodL tt).s, .int .i64 (goodL tt).c, .int .i64 (goodL tt).i, .int .i64 (goodL tt).k].toArray rfl 30 (by omega)
    have hbz := ho1.grew_below hz1 hgz
    have hkz := hk1.same (hbz.block _ (by omega))
    have hzz := Nat.le_trans hz1 hbz.size
    have hBz := hB1.trans (hbz.mono (by omega))
    have hSz : CellsAt wz (ya.add (i * 4)) [.int .i64 tt.s, .int .i64 tt.c, .int .i64 tt.i, .int .i64 tt.k] := (hlr.below lab_ok.len hBz).at lab_ok.len hti
    have hS2 := hS1.below (alloc_below w1 (.cells [.int .i64 (goodL tt).s, .int .i64 (goodL tt).c, .int .i64 (goodL tt).i, .int .i64 (goodL tt).k].toArray 30))
    have hk2 := hk1.same ((alloc_below w1 (.cells [.int .i64 (goodL tt).s, .int .i64 (goodL tt).c, .int .i64 (goodL tt).i, .int .i64 (goodL tt).k].toArray 30)).block _ (by omega))
    have hz2 := Nat.le_trans hz1 (alloc_below w1 (.cells [.int .i64 (goodL tt).s, .int .i64 (goodL tt).c, .int .i64 (goodL tt).i, .int .i64 (goodL tt).k].toArray 30)).size
    have ho2 := ho1
    have hB2 := hB1
    obtain ⟨w2, hww⟩ : ∃ w', w1.alloc (.cells [.int .i64 (goodL tt).s, .int .i64 (goodL tt).c, .int .i64 (goodL tt).i, .int .i64 (goodL tt).k].toArray 30) = w' := ⟨_, rfl⟩
    rw [hww] at hS2 hk2 hz2 hap hHeld ⊢
    clear hww
    (try simp only [Act.put, zsA, zsB, zsC])
    refine tkR (rs := [1]) ?_
    refine tkC (fun K hK => ?_) AllReadyH.nil
    have hcf := (hk2 0 _ rfl).1
    go_simp
    refine hK.out _ _ (hS2) ?_
    clear hHeld hK
    intro hHeld
    obtain ⟨w3, hww⟩ : ∃ w', w' = w2 := ⟨_, rfl⟩
    subst hww
    have hS3 := hS2
    have hk3 := hk2
    have hz3 := hz2
    have ho3 := ho2
    have hB3 := hB2
    (try simp only [Act.put, zsA, zsB, zsC])
    refine tkR (rs := [8]) ?_
    refine tkC (fun K hK => ?_) AllReadyH.nil
    refine step_append rfl _ _ rfl rfl rfl rfl hap ?_
    (try simp only [Act.put, zsA, zsB, zsC])
    refine hK.out _ _ (hSz) ?_
    clear hHeld hK
    intro hHeld
    have hcz := hkz 0 _ rfl
    have hk2 := hkz.set 0 vz (by simp)
    have hoz2 := hoz.set (g := w.heap.size) (j := 0) (u := vz) (fun q => by have := (hoz.lt q).1; omega)
    have hB2 : Below w.heap.size w (wz.setCell ⟨w.heap.size, 0, none⟩ vz) := hBz.setCell (p := ⟨w.heap.size, 0, none⟩) (Nat.le_refl _) _
    have hz2 : w.heap.size + 1 ≤ (wz.setCell ⟨w.heap.size, 0, none⟩ vz).heap.size := by simpa using hzz
    have hS2 : CellsAt (wz.setCell ⟨w.heap.size, 0, none⟩ vz) (ya.add (i * 4)) [.int .i64 tt.s, .int .i64 tt.c, .int .i64 tt.i, .int .i64 tt.k] := (hlr.below lab_ok.len hB2).at lab_ok.len hti
    obtain ⟨av, cv, hvv, -, -, -⟩ := OwnR.slice lab_ok.len hoz
    generalize (L ++ [goodL tt]).length = lz at hvv
    subst hvv
    (try simp only [Act.put, zsA, zsB, zsC])
    refine tkA 9 ?_
    refine tkR (rs := [10]) ?_
    refine tkC (fun K hK => ?_) AllReadyH.nil
    go_simp
    refine hK.out _ _ (hS2) ?_
    clear hHeld hK
    intro hHeld
    (try simp only [Act.put, zsA, zsB, zsC])
    refine wpAnyH_done (by kernel_rfl) ?_ _
    go_wp2_with fail
    exact ⟨⟨i + 1, by omega, by omega, by simp, _, by rw [hmap]; exact hoz2, hk2, hB2, hz2⟩, by simp [Go.RowKit.intOf]; omega⟩
   ·have hend : (ts.take i).map goodL = (ts.take 4).map goodL := by
      have hnn := hn.out
      by_cases h4 : i = 4
      ·rw [h4]
      ·rw [List.take_of_length_le (by omega), List.take_of_length_le (by omega)]
    rw [hend] at ho
    by_cases hin : i < n
    ·obtain rfl : i = 4 := by omega
     have i1 : ((4 : Nat) : Int) < (n : Int) := by omega
     go_wp2_with fail
     go_meet
     exact ⟨v, ho, hk, hB, hz⟩
    ·obtain rfl : i = n := by omega
     go_wp2_with fail
     go_meet
     exact ⟨v, ho, hk, hB, hz⟩
 case rest =>
  clear hb0 hB0 hz0
  obtain ⟨v, ho, hk, hB, hz⟩ := hcut
  have hl4 : ((ts.take 4).map goodL).length ≤ 4 := by simp; omega
  have hR' := hR.out
  unfold growN at hR'
  clear hR
  generalize (ts.take 4).map goodL = L at *
  obtain ⟨va, vc, hvv, -, -, hLr⟩ := OwnR.slice lab_ok.len ho
  subst hvv
  have hrow := hk.range
  have hcf : (Tryz.prog.info? 90).map (·.size) = some 3 := by kernel_rfl
  clear ho hk
  replace hR' : Aside _ := hR'
  go_wp2_with (first | (refine wpList_load_row rfl _ rfl _ rfl [.slice va L.length vc, .slice none 0 0, .slice none 0 0] hrow Tryz.underlying90 rfl hcf ?_) | fail)
  refine (rfirstT_any va vc L _ _ _ _ _ _ (by omega) wc hLr).mono ?_
  rintro e W1 ⟨v1, rfl, hO1, hG1, hB1⟩
  have g1 : GI w W1 v1 (firstP L L.length (some ⟨wc.heap.size + 1, 0, none⟩)) := ⟨hO1.lower (by omega), first_at L _ W1 hG1, hB.trans (hB1.mono (by omega)), first_abv L _ _ (by omega)⟩
  have hn1 := firstP_names L L.length (some ⟨wc.heap.size + 1, 0, none⟩)
  have hs1 := firstP_len L L.length (some ⟨wc.heap.size + 1, 0, none⟩)
  clear hO1 hG1 hB1 hLr hrow hz hB
  obtain ⟨m, hm⟩ : ∃ m, ms.length = m := ⟨_, rfl⟩
  rw [hm]
  replace hm : Aside (ms.length = m) := hm
  have hL1 : (firstP L L.length (some ⟨wc.heap.size + 1, 0, none⟩)).length ≤ 5 := by rw [hs1]; have := dist_len L L.length; omega
  generalize hfp : firstP L L.length (some ⟨wc.heap.size + 1, 0, none⟩) = F at *
  clear hfp hs1
  replace hn1 : Aside _ := hn1
  clear hcf
  generalize wc.heap.size = cz at *
  go_wp2_with fail
  go_loopw [7, 8] (fun t7 t8 wr => ∃ (i : Nat) (l : List PN), i ≤ m ∧ i ≤ 14 ∧ t8 = .int .i64 (i : Int) ∧ GI w wr t7 l ∧ l.length ≤ 5 + i ∧ Aside (((ms.map (·.m)).take i).foldl growStep (firstN L) = namesP l)) (fun _ t8 _ => m - (Go.RowKit.intOf t8).toNat)
  case atStart => exact ⟨0, F, by omega, by omega, rfl, g1, by omega, by rw [hn1.out]; exact rfl⟩
  case round =>
   clear g1 hL1
   obtain ⟨i, l, hi, hi14, rfl, g, hll, hf⟩ := hrel
   obtain ⟨va, vc, hvv, -, -, hrl⟩ := OwnR.slice pn_ok.len g.o
   subst hvv
   have hrn : RowN wr va l := ⟨hrl, g.p⟩
   by_cases hlt : i < m ∧ i < 14
   ·obtain ⟨x, hx⟩ : ∃ x, ms[i]? = some x := ⟨_, List.getElem?_eq_getElem (by rw [hm.out]; exact hlt.1)⟩
    have hMr := hmr.below g.b
    obtain ⟨ya, rfl, -⟩ := hMr.r i x hx
    have hxa := hMr.p x (List.mem_of_getElem? hx)
    have hcx := hMr.r.at pm_len hx
    have hst : ((ms.map (·.m)).take (i + 1)).foldl growStep (firstN L) = growStep (namesP l) x.m := by
     rw [List.take_add_one, List.getElem?_map, hx, List.foldl_append, hf.out]; rfl
    replace hst : Aside _ := hst
    obtain ⟨Wm, hWm, hth, hbk, hBm⟩ := put_new wr mzero 129 x.cs rfl (by rw [pm_len]; omega)
    have hc0 := (hbk.1 0 _ rfl).1
    have hszm : (Tryz.prog.info? 129).map (·.size) = some x.cs.length := by kernel_rfl
    have hone := pm_one x
    have i1 : (i : Int) < (m : Int) := by omega
    have i2 : (i : Int) < 14 := by omega
    have kof := mkOf_any x Wm (hxa.below hBm)
    have g1 := g.then hBm
    have hrn1 := hrn.below hBm
    have hxa1 := hxa.below hBm
    go_wp2_with (first | (refine wpList_load_at rfl _ rfl (ya.add (i * 16)) rfl x.cs hcx Tryz.underlying129 rfl hszm ?_) | (refine wpList_store_row rfl _ _ rfl wr.heap.size rfl x.cs rfl hth hszm hone hWm ?_) | fail)
    refine kof.mono ?_
    rintro e W2 ⟨rfl, hB2⟩
    generalize wr.heap.size = bm at *
    have g2 := g1.then hB2
    have hrn2 := hrn1.below hB2
    have hxa2 := hxa1.below hB2
    have hbk2 := stab_blk _ _ _ _ hbk hB2
    have hsp := mkPath_size x.m
    have hst' := hst.out
    obtain ⟨T, hT⟩ : ∃ T, ((ms.map (·.m)).take (i + 1)).foldl growStep (firstN L) = T := ⟨_, rfl⟩
    rw [hT] at hst'
    replace hT : Aside _ := hT
    unfold growStep at hst'
    obtain ⟨p, hp⟩ : ∃ p, mkPath x.m = p := ⟨_, rfl⟩
    rw [hp] at hsp hst' ⊢
    replace hp : Aside (mkPath x.m = p) := hp
    clear kof hrn hrn1 hxa hxa1 hbk hBm hB2 hone hc0 hcx hth g g1 hst hMr hrl hWm Wm
    cases he : eqs p slashS
    ·rw [if_neg (by rw [he]; decide)] at hst'
     have f0 : (p.toList == [47]) = false := by rw [← slash_lit]; exact he
     go_wp2_with fail
     refine (rparent_any p (by omega) W2).mono ?_
     rintro e W2' ⟨rfl, hW2'⟩
     subst hW2'
     go_wp2_with fail
     refine (rfindT_any va vc l (parentOf p) (by omega) _ hrn2).mono ?_
     rintro e W3 ⟨rfl, hB3⟩
     have hfp := find_names l (parentOf p)
     generalize hfd : findP l (parentOf p) = fd at *
     replace hfd : Aside _ := hfd
     have hszn : (Tryz.prog.info? 36).map (·.size) = some (foundCs fd).length := by rw [show (foundCs fd).length = 16 from rfl]; kernel_rfl
     have honen : ∀ v ∈ foundCs fd, v.oneCell' = true := pn_one _
     obtain ⟨W4, hW4, hth4, hbd, hB4⟩ := put_new W3 nzT 36 (foundCs fd) rfl (by rw [show (foundCs fd).length = 16 from rfl]; omega)
     have hB34 := Below.then hB3 hB4
     have g4 := g2.then hB34
     have hrn4 := hrn2.below hB34
     have hxa4 := hxa2.below hB34
     have hbk4 := stab_blk _ _ _ _ hbk2 hB34
     clear g2 hrn2 hxa2 hbk2 hB34 hB3 hB4
     go_wp2_with (first | (refine wpList_store_row rfl _ _ rfl W3.heap.size rfl (foundCs fd) rfl hth4 hszn honen hW4 ?_) | fail)
     generalize W3.heap.size = bd at *
     clear hth4 hW4 hszn honen W3
     refine (rfindT_any va vc l p (by omega) _ hrn4).mono ?_
     rintro e W5 ⟨rfl, hB5⟩
     have hfp2 := find_names l p
     generalize hfe : findP l p = fe at *
     replace hfe : Aside _ := hfe
     have hszn : (Tryz.prog.info? 36).map (·.size) = some (foundCs fe).length := by rw [show (foundCs fe).length = 16 from rfl]; kernel_rfl
     have honen : ∀ v ∈ foundCs fe, v.oneCell' = true := pn_one _
     obtain ⟨W6, hW6, hth6, hbe, hB6⟩ := put_new W5 nzT 36 (foundCs fe) rfl (by rw [show (foundCs fe).length = 16 from rfl]; omega)
     have hB56 := Below.then hB5 hB6
     have g6 := g4.then hB56
     have hrn6 := hrn4.below hB56
     have hxa6 := hxa4.below hB56
     have hbk6 := stab_blk _ _ _ _ hbk4 hB56
     have hbd6 := stab_blk _ _ _ _ hbd hB56
     clear g4 hrn4 hxa4 hbk4 hbd hB56 hB5 hB6
     rw [hfp, hfp2] at hst'
     cases fd with
     | none =>
      go_wp2_with (first | (refine wpList_store_row rfl _ _ rfl W5.heap.size rfl (foundCs fe) rfl hth6 hszn honen hW6 ?_) | fail)
      exact ⟨⟨i + 1, l, by omega, by omega, by simp, g6, by omega, by rw [hT.out]; exact hst'⟩, by simp [Go.RowKit.intOf]; omega⟩
     | some d =>
      have hd1 := (hbd6.1 1 (.bool d.n.dir) rfl).1
      by_cases hgo : d.n.dir = true ∧ fe = none
      ·obtain ⟨hdd, rfl⟩ := hgo
       rw [hdd] at hd1
       replace hst' : T = putN (namesP l) (mkN d.n x.m) := by rw [hst']; simp [hdd]
       replace hst' : Aside _ := hst'
       go_upto_region 16 with (first | (refine wpList_store_row rfl _ _ rfl W5.heap.size rfl (foundCs none) rfl hth6 hszn honen hW6 ?_) | fail)
       have h4 : G4 w W6 (.slice va l.length vc) l x bm d bd := ⟨g6, hxa6, hbk6, hbd6⟩
       clear g6 hxa6 hbk6 hbd6 hth6 hszn honen hW6 hrn6 hd1 hbe
       generalize W5.heap.size = be at *
       clear W5
       go_cut [15] from 39 to 129 (fun s15 wq => ∃ (bn : Nat) (aa : Option Addr) (ca : Nat), s15 = .pointer (some ⟨bn, 0, none⟩) ∧ Below W6.heap.size W6 wq ∧ W6.heap.size ≤ bn ∧ BlkL bn (nclT (nod0 d.n x.m) aa ca none 0) wq ∧ OwnGr wq W6.heap.size (.slice aa (aclOf x.m.acl).length ca) (aclOf x.m.acl) ∧ (Value.slice aa (aclOf x.m.acl).length ca).ownBlock ≠ some bn)
       case first =>
        have hS0 : Below W6.heap.size W6 W6.drew := (Below.refl _ _).drew
        obtain ⟨A, hA⟩ : ∃ A, aclOf x.m.acl = A := ⟨_, rfl⟩
        replace hA : Aside _ := hA
        have hszN : (Tryz.prog.info? 36).map (·.size) = some 16 := by kernel_rfl
        refine wp_region_held_drew (S := (fun W => Below W6.heap.size W6 W)) (by kernel_rfl) (by exact hS0) ?_
        intro hHeld
        generalize W6.drew = w0 at *
        refine tkA 0 ?_
        refine tkA 1 ?_
        refine tkB 2 (y := yields_cell (by rfl) _ rfl ⟨bm, 1, none⟩ rfl (.bool x.m.dir) (fun _ q => ((h4.then q).mb.1 1 _ rfl).1) boolG_load) (h := ?_)
        refine tkA 3 ?_
        refine tkB 4 (y := yields_at (by rfl) _ rfl ⟨bd, 2, none⟩ rfl [.int .i64 d.n.label.s, .int .i64 d.n.label.c, .int .i64 d.n.label.i, .int .i64 d.n.label.k] (fun _ q => blk_at (h4.then q).db.1 (by intro j v hv; match j, hv with | 0, hv => exact hv | 1, hv => exact hv | 2, hv => exact hv | 3, hv => exact hv)) Tryz.underlying30 rfl hsl) (h := ?_)
        refine tkA 5 ?_
        refine tkB 6 (y := yields_cell (by rfl) _ rfl ⟨bm, 6, none⟩ rfl (.slice x.aa x.m.acl.length x.ca) (fun _ q => ((h4.then q).mb.1 6 _ rfl).1) grs_load) (h := ?_)
        refine tkA 8 ?_
        refine tkB 9 (y := yields_at (by rfl) _ rfl ⟨bm, 12, none⟩ rfl [.int .i64 x.m.by_.s, .int .i64 x.m.by_.c, .int .i64 x.m.by_.i, .int .i64 x.m.by_.k] (fun _ q => blk_at (h4.then q).mb.1 (by intro j v hv; match j, hv with | 0, hv => exact hv | 1, hv => exact hv | 2, hv => exact hv | 3, hv => exact hv)) Tryz.underlying30 rfl hsl) (h := ?_)
        refine tkR (rs := [7, 12]) ?_
        refine tkC (fun K hK => ?_) ?_
        ·go_simp
         go_at_call 48
         refine (aclT_any _ _ x.m.acl _ (h4.then hS0).xa.g).mono ?_
         rintro e w1 ⟨v7, rfl, hO1, hb⟩
         rw [hA.out] at hO1
         obtain ⟨aa, ca, hvv, -, -, -⟩ := OwnR.slice gr_okT.len hO1
         subst hvv
         have hS1 := Below.then hS0 hb
         refine hK.out _ _ (hS1) ?_
         clear hHeld hK
         intro hHeld
         (try simp only [Act.put, zsA, zsB, zsC])
         refine tkR (rs := [10, 12]) ?_
         refine tkC (fun K hK => ?_) ?_
         ·go_simp
          go_at_call 45
          refine (good_any x.m.by_ _).mono ?_
          rintro e w2 ⟨rfl, hb⟩
          have hS2 := Below.then hS1 hb
          have hO2 := hO1.below hb
          refine hK.out _ _ (hS2) ?_
          clear hHeld hK
          intro hHeld
          (try simp only [Act.put, zsA, zsB, zsC])
          refine tkA 11 ?_
          refine tkR (rs := [12]) ?_
          refine tkC (fun K hK => ?_) AllReadyH.nil
          go_simp
          refine hK.out _ _ (Below.then hS2 (alloc_below _ _)) ?_
          clear hHeld hK
          intro hHeld
          have hb := alloc_below w2 (.cells nzT 36)
          have hbn3 := blkl_alloc w2 nzT 36
          have hpb3 := hb
          have hS3 := Below.then hS2 hb
          have hO3 := hO2.below hb
          generalize hwx : w2.alloc (.cells nzT 36) = w3 at *
          clear hwx hb
          (try simp only [Act.put, zsA, zsB, zsC])
          refine tkR (rs := [13]) ?_
          refine tkC (fun K hK => ?_) AllReadyH.nil
          have hthz : w3.there w2.heap.size 0 ([.string p, .bool x.m.dir, .int .i64 d.n.label.s, .int .i64 d.n.label.c, .int .i64 d.n.label.i, .int .i64 d.n.label.k, .slice aa A.length ca, .int .i64 0, .int .i64 0, .int .i64 0, .int .i64 0, .slice none 0 0, .int .i64 (goodL x.m.by_).s, .int .i64 (goodL x.m.by_).c, .int .i64 (goodL x.m.by_).i, .int .i64 (goodL x.m.by_).k] : List Value).length := hbn3.1.there
          obtain ⟨wz, hwz⟩ : ∃ wz, w3.setCells w2.heap.size 0 [.string p, .bool x.m.dir, .int .i64 d.n.label.s, .int .i64 d.n.label.c, .int .i64 d.n.label.i, .int .i64 d.n.label.k, .slice aa A.length ca, .int .i64 0, .int .i64 0, .int .i64 0, .int .i64 0, .slice none 0 0, .int .i64 (goodL x.m.by_).s, .int .i64 (goodL x.m.by_).c, .int .i64 (goodL x.m.by_).i, .int .i64 (goodL x.m.by_).k] = wz := ⟨_, rfl⟩
          have hbz1 : Blk wz w2.heap.size [.string p, .bool x.m.dir, .int .i64 d.n.label.s, .int .i64 d.n.label.c, .int .i64 d.n.label.i, .int .i64 d.n.label.k, .slice aa A.length ca, .int .i64 0, .int .i64 0, .int .i64 0, .int .i64 0, .slice none 0 0, .int .i64 (goodL x.m.by_).s, .int .i64 (goodL x.m.by_).c, .int .i64 (goodL x.m.by_).i, .int .i64 (goodL x.m.by_).k] := by rw [← hwz]; exact hbn3.1.setAll rfl
          have hbz : BlkL w2.heap.size [.string p, .bool x.m.dir, .int .i64 d.n.label.s, .int .i64 d.n.label.c, .int .i64 d.n.label.i, .int .i64 d.n.label.k, .slice aa A.length ca, .int .i64 0, .int .i64 0, .int .i64 0, .int .i64 0, .slice none 0 0, .int .i64 (goodL x.m.by_).s, .int .i64 (goodL x.m.by_).c, .int .i64 (goodL x.m.by_).i, .int .i64 (goodL x.m.by_).k] wz := ⟨hbz1, hbz1.lt rfl⟩
          have hBz : Below w2.heap.size w2 wz := by rw [← hwz]; exact Below.cells (Nat.le_refl _) _ 0 hpb3
          have hSz := Below.then hS2 hBz
          have hO9 := hO2.below hBz
          have hne9 : (Value.slice aa A.length ca).ownBlock ≠ some w2.heap.size := fun q => by have h1 := (hO2.lt q).2; omega
          refine step_store_rowT rfl _ _ rfl w2.heap.size rfl [.string p, .bool x.m.dir, .int .i64 d.n.label.s, .int .i64 d.n.label.c, .int .i64 d.n.label.i, .int .i64 d.n.label.k, .slice aa A.length ca, .int .i64 0, .int .i64 0, .int .i64 0, .int .i64 0, .slice none 0 0, .int .i64 (goodL x.m.by_).s, .int .i64 (goodL x.m.by_).c, .int .i64 (goodL x.m.by_).i, .int .i64 (goodL x.m.by_).k] rfl hthz hszN (pn_one ⟨⟨p, x.m.dir, d.n.label, A, 0, 0, 0, 0, [], goodL x.m.by_⟩, aa, ca, none, 0⟩) hwz ?_
          (try simp only [Act.put, zsA, zsB, zsC])
          refine hK.out _ _ (hSz) ?_
          clear hHeld hK
          intro hHeld
          (try simp only [Act.put, zsA, zsB, zsC])
          refine wpAnyH_done (by kernel_rfl) ?_ _
          go_wp2_with fail
          go_meet
          exact ⟨_, aa, ca, rfl, hSz, hS2.size, by rw [show nclT (nod0 d.n x.m) aa ca none 0 = [.string p, .bool x.m.dir, .int .i64 d.n.label.s, .int .i64 d.n.label.c, .int .i64 d.n.label.i, .int .i64 d.n.label.k, .slice aa A.length ca, .int .i64 0, .int .i64 0, .int .i64 0, .int .i64 0, .slice none 0 0, .int .i64 (goodL x.m.by_).s, .int .i64 (goodL x.m.by_).c, .int .i64 (goodL x.m.by_).i, .int .i64 (goodL x.m.by_).k] from by unfold nclT nod0; rw [hp.out, hA.out]; rfl]; exact hbz, by rw [hA.out]; exact hO9.lower hS0.size, by rw [hA.out]; exact hne9⟩
         refine tkC (fun K hK => ?_) AllReadyH.nil
         go_simp
         refine hK.out _ _ (Below.then hS1 (alloc_below _ _)) ?_
         clear hHeld hK
         intro hHeld
         have hb := alloc_below w1 (.cells nzT 36)
         have hbn2 := blkl_alloc w1 nzT 36
         have hpb2 := hb
         have hS2 := Below.then hS1 hb
         have hO2 := hO1.below hb
         generalize hwx : w1.alloc (.cells nzT 36) = w2 at *
         clear hwx hb
         (try simp only [Act.put, zsA, zsB, zsC])
         refine tkR (rs := [10]) ?_
         refine tkC (fun K hK => ?_) AllReadyH.nil
         go_simp
         go_at_call 45
         refine (good_any x.m.by_ _).mono ?_
         rintro e w3 ⟨rfl, hb⟩
         have hS3 := Below.then hS2 hb
         have hO3 := hO2.below hb
         have hbn3 := stab_blk _ _ _ _ hbn2 hb
         have hpb3 := Below.then hpb2 hb
         refine hK.out _ _ (hS3) ?_
         clear hHeld hK
         intro hHeld
         (try simp only [Act.put, zsA, zsB, zsC])
         refine tkA 11 ?_
         refine tkR (rs := [13]) ?_
         refine tkC (fun K hK => ?_) AllReadyH.nil
         have hthz : w3.there w1.heap.size 0 ([.string p, .bool x.m.dir, .int .i64 d.n.label.s, .int .i64 d.n.label.c, .int .i64 d.n.label.i, .int .i64 d.n.label.k, .slice aa A.length ca, .int .i64 0, .int .i64 0, .int .i64 0, .int .i64 0, .slice none 0 0, .int .i64 (goodL x.m.by_).s, .int .i64 (goodL x.m.by_).c, .int .i64 (goodL x.m.by_).i, .int .i64 (goodL x.m.by_).k] : List Value).length := hbn3.1.there
         obtain ⟨wz, hwz⟩ : ∃ wz, w3.setCells w1.heap.size 0 [.string p, .bool x.m.dir, .int .i64 d.n.label.s, .int .i64 d.n.label.c, .int .i64 d.n.label.i, .int .i64 d.n.label.k, .slice aa A.length ca, .int .i64 0, .int .i64 0, .int .i64 0, .int .i64 0, .slice none 0 0, .int .i64 (goodL x.m.by_).s, .int .i64 (goodL x.m.by_).c, .int .i64 (goodL x.m.by_).i, .int .i64 (goodL x.m.by_).k] = wz := ⟨_, rfl⟩
         have hbz1 : Blk wz w1.heap.size [.string p, .bool x.m.dir, .int .i64 d.n.label.s, .int .i64 d.n.label.c, .int .i64 d.n.label.i, .int .i64 d.n.label.k, .slice aa A.length ca, .int .i64 0, .int .i64 0, .int .i64 0, .int .i64 0, .slice none 0 0, .int .i64 (goodL x.m.by_).s, .int .i64 (goodL x.m.by_).c, .int .i64 (goodL x.m.by_).i, .int .i64 (goodL x.m.by_).k] := by rw [← hwz]; exact hbn3.1.setAll rfl
         have hbz : BlkL w1.heap.size [.string p, .bool x.m.dir, .int .i64 d.n.label.s, .int .i64 d.n.label.c, .int .i64 d.n.label.i, .int .i64 d.n.label.k, .slice aa A.length ca, .int .i64 0, .int .i64 0, .int .i64 0, .int .i64 0, .slice none 0 0, .int .i64 (goodL x.m.by_).s, .int .i64 (goodL x.m.by_).c, .int .i64 (goodL x.m.by_).i, .int .i64 (goodL x.m.by_).k] wz := ⟨hbz1, hbz1.lt rfl⟩
         have hBz : Below w1.heap.size w1 wz := by rw [← hwz]; exact Below.cells (Nat.le_refl _) _ 0 hpb3
         have hSz := Below.then hS1 hBz
         have hO9 := hO1.below hBz
         have hne9 : (Value.slice aa A.length ca).ownBlock ≠ some w1.heap.size := fun q => by have h1 := (hO1.lt q).2; omega
         refine step_store_rowT rfl _ _ rfl w1.heap.size rfl [.string p, .bool x.m.dir, .int .i64 d.n.label.s, .int .i64 d.n.label.c, .int .i64 d.n.label.i, .int .i64 d.n.label.k, .slice aa A.length ca, .int .i64 0, .int .i64 0, .int .i64 0, .int .i64 0, .slice none 0 0, .int .i64 (goodL x.m.by_).s, .int .i64 (goodL x.m.by_).c, .int .i64 (goodL x.m.by_).i, .int .i64 (goodL x.m.by_).k] rfl hthz hszN (pn_one ⟨⟨p, x.m.dir, d.n.label, A, 0, 0, 0, 0, [], goodL x.m.by_⟩, aa, ca, none, 0⟩) hwz ?_
         (try simp only [Act.put, zsA, zsB, zsC])
         refine hK.out _ _ (hSz) ?_
         clear hHeld hK
         intro hHeld
         (try simp only [Act.put, zsA, zsB, zsC])
         refine wpAnyH_done (by kernel_rfl) ?_ _
         go_wp2_with fail
         go_meet
         exact ⟨_, aa, ca, rfl, hSz, hS1.size, by rw [show nclT (nod0 d.n x.m) aa ca none 0 = [.string p, .bool x.m.dir, .int .i64 d.n.label.s, .int .i64 d.n.label.c, .int .i64 d.n.label.i, .int .i64 d.n.label.k, .slice aa A.length ca, .int .i64 0, .int .i64 0, .int .i64 0, .int .i64 0, .slice none 0 0, .int .i64 (goodL x.m.by_).s, .int .i64 (goodL x.m.by_).c, .int .i64 (goodL x.m.by_).i, .int .i64 (goodL x.m.by_).k] from by unfold nclT nod0; rw [hp.out, hA.out]; rfl]; exact hbz, by rw [hA.out]; exact hO9.lower hS0.size, by rw [hA.out]; exact hne9⟩
        refine tkC (fun K hK => ?_) AllReadyH.nil
        go_simp
        refine hK.out _ _ (Below.then hS0 (alloc_below _ _)) ?_
        clear hHeld hK
        intro hHeld
        have hb := alloc_below w0 (.cells nzT 36)
        have hbn1 := blkl_alloc w0 nzT 36
        have hpb1 := hb
        have hS1 := Below.then hS0 hb
        generalize hwx : w0.alloc (.cells nzT 36) = w1 at *
        clear hwx hb
        (try simp only [Act.put, zsA, zsB, zsC])
        refine tkR (rs := [7]) ?_
        refine tkC (fun K hK => ?_) AllReadyH.nil
        go_simp
        go_at_call 48
        refine (aclT_any _ _ x.m.acl _ (h4.then hS1).xa.g).mono ?_
        rintro e w2 ⟨v7, rfl, hO2, hb⟩
        rw [hA.out] at hO2
        obtain ⟨aa, ca, hvv, -, -, -⟩ := OwnR.slice gr_okT.len hO2
        subst hvv
        have hS2 := Below.then hS1 hb
        have hbn2 := stab_blk _ _ _ _ hbn1 hb
        have hpb2 := Below.then hpb1 hb
        refine hK.out _ _ (hS2) ?_
        clear hHeld hK
        intro hHeld
        (try simp only [Act.put, zsA, zsB, zsC])
        refine tkR (rs := [10]) ?_
        refine tkC (fun K hK => ?_) AllReadyH.nil
        go_simp
        go_at_call 45
        refine (good_any x.m.by_ _).mono ?_
        rintro e w3 ⟨rfl, hb⟩
        have hS3 := Below.then hS2 hb
        have hO3 := hO2.below hb
        have hbn3 := stab_blk _ _ _ _ hbn2 hb
        have hpb3 := Below.then hpb2 hb
        refine hK.out _ _ (hS3) ?_
        clear hHeld hK
        intro hHeld
        (try simp only [Act.put, zsA, zsB, zsC])
        refine tkA 11 ?_
        refine tkR (rs := [13]) ?_
        refine tkC (fun K hK => ?_) AllReadyH.nil
        have hthz : w3.there w0.heap.size 0 ([.string p, .bool x.m.dir, .int .i64 d.n.label.s, .int .i64 d.n.label.c, .int .i64 d.n.label.i, .int .i64 d.n.label.k, .slice aa A.length ca, .int .i64 0, .int .i64 0, .int .i64 0, .int .i64 0, .slice none 0 0, .int .i64 (goodL x.m.by_).s, .int .i64 (goodL x.m.by_).c, .int .i64 (goodL x.m.by_).i, .int .i64 (goodL x.m.by_).k] : List Value).length := hbn3.1.there
        obtain ⟨wz, hwz⟩ : ∃ wz, w3.setCells w0.heap.size 0 [.string p, .bool x.m.dir, .int .i64 d.n.label.s, .int .i64 d.n.label.c, .int .i64 d.n.label.i, .int .i64 d.n.label.k, .slice aa A.length ca, .int .i64 0, .int .i64 0, .int .i64 0, .int .i64 0, .slice none 0 0, .int .i64 (goodL x.m.by_).s, .int .i64 (goodL x.m.by_).c, .int .i64 (goodL x.m.by_).i, .int .i64 (goodL x.m.by_).k] = wz := ⟨_, rfl⟩
        have hbz1 : Blk wz w0.heap.size [.string p, .bool x.m.dir, .int .i64 d.n.label.s, .int .i64 d.n.label.c, .int .i64 d.n.label.i, .int .i64 d.n.label.k, .slice aa A.length ca, .int .i64 0, .int .i64 0, .int .i64 0, .int .i64 0, .slice none 0 0, .int .i64 (goodL x.m.by_).s, .int .i64 (goodL x.m.by_).c, .int .i64 (goodL x.m.by_).i, .int .i64 (goodL x.m.by_).k] := by rw [← hwz]; exact hbn3.1.setAll rfl
        have hbz : BlkL w0.heap.size [.string p, .bool x.m.dir, .int .i64 d.n.label.s, .int .i64 d.n.label.c, .int .i64 d.n.label.i, .int .i64 d.n.label.k, .slice aa A.length ca, .int .i64 0, .int .i64 0, .int .i64 0, .int .i64 0, .slice none 0 0, .int .i64 (goodL x.m.by_).s, .int .i64 (goodL x.m.by_).c, .int .i64 (goodL x.m.by_).i, .int .i64 (goodL x.m.by_).k] wz := ⟨hbz1, hbz1.lt rfl⟩
        have hBz : Below w0.heap.size w0 wz := by rw [← hwz]; exact Below.cells (Nat.le_refl _) _ 0 hpb3
        have hSz := Below.then hS0 hBz
        have hne9 : (Value.slice aa A.length ca).ownBlock ≠ some w0.heap.size := fun q => by have h1 := (hO3.lt q).1; have h2 := hbn1.2; omega
        have hO9 : OwnGr wz w1.heap.size (.slice aa A.length ca) A := by rw [← hwz]; exact hO3.setAll hne9 _
        refine step_store_rowT rfl _ _ rfl w0.heap.size rfl [.string p, .bool x.m.dir, .int .i64 d.n.label.s, .int .i64 d.n.label.c, .int .i64 d.n.label.i, .int .i64 d.n.label.k, .slice aa A.length ca, .int .i64 0, .int .i64 0, .int .i64 0, .int .i64 0, .slice none 0 0, .int .i64 (goodL x.m.by_).s, .int .i64 (goodL x.m.by_).c, .int .i64 (goodL x.m.by_).i, .int .i64 (goodL x.m.by_).k] rfl hthz hszN (pn_one ⟨⟨p, x.m.dir, d.n.label, A, 0, 0, 0, 0, [], goodL x.m.by_⟩, aa, ca, none, 0⟩) hwz ?_
        (try simp only [Act.put, zsA, zsB, zsC])
        refine hK.out _ _ (hSz) ?_
        clear hHeld hK
        intro hHeld
        (try simp only [Act.put, zsA, zsB, zsC])
        refine wpAnyH_done (by kernel_rfl) ?_ _
        go_wp2_with fail
        go_meet
        exact ⟨_, aa, ca, rfl, hSz, hS0.size, by rw [show nclT (nod0 d.n x.m) aa ca none 0 = [.string p, .bool x.m.dir, .int .i64 d.n.label.s, .int .i64 d.n.label.c, .int .i64 d.n.label.i, .int .i64 d.n.label.k, .slice aa A.length ca, .int .i64 0, .int .i64 0, .int .i64 0, .int .i64 0, .slice none 0 0, .int .i64 (goodL x.m.by_).s, .int .i64 (goodL x.m.by_).c, .int .i64 (goodL x.m.by_).i, .int .i64 (goodL x.m.by_).k] from by unfold nclT nod0; rw [hp.out, hA.out]; rfl]; exact hbz, by rw [hA.out]; exact hO9.lower hS1.size, by rw [hA.out]; exact hne9⟩
       case rest =>
        obtain ⟨bn, aa, ca, rfl, hB7, hbn, hN, hO, hne⟩ := hcut
        have h4c := h4.then hB7
        have hm1 := (h4c.mb.1 1 _ rfl).1
        have hsz4 : (Tryz.prog.info? 33).map (·.size) = some 4 := by kernel_rfl
        cases hdir : x.m.dir
        ·rw [hdir] at hm1
         have hrg : CellsAt wc ⟨bm, 7, none⟩ [.int .i64 x.m.rings.a, .int .i64 x.m.rings.b, .int .i64 x.m.rings.c, .int .i64 x.m.rings.g] := blk_at h4c.mb.1 (by intro j v hv; match j, hv with | 0, hv => exact hv | 1, hv => exact hv | 2, hv => exact hv | 3, hv => exact hv)
         go_wp2_with (first | (refine wpList_load_at rfl _ rfl ⟨bm, 7, none⟩ rfl [.int .i64 x.m.rings.a, .int .i64 x.m.rings.b, .int .i64 x.m.rings.c, .int .i64 x.m.rings.g] hrg Tryz.underlying33 rfl hsz4 ?_) | fail)
         refine (rggood_any x.m.rings wc).mono ?_
         rintro e W8 ⟨rfl, hb8⟩
         obtain ⟨W9, hW9, hth9, hN9, hB9⟩ := put_mid (stab_blk _ _ _ _ hN hb8) 7 [.int .i64 (goodR x.m.rings).a, .int .i64 (goodR x.m.rings).b, .int .i64 (goodR x.m.rings).c, .int .i64 (goodR x.m.rings).g] (by simp [nclT]) (by simp [nclT]) (Below.then hB7 hb8) hbn
         have hO9 : OwnGr W9 W6.heap.size (.slice aa (aclOf x.m.acl).length ca) (aclOf x.m.acl) := by rw [← hW9]; exact (hO.below hb8).mid hne 7 _
         obtain ⟨nn, hnn⟩ : ∃ nn : Nod, nn = ⟨mkPath x.m, false, d.n.label, aclOf x.m.acl, (goodR x.m.rings).a, (goodR x.m.rings).b, (goodR x.m.rings).c, (goodR x.m.rings).g, [], goodL x.m.by_⟩ := ⟨_, rfl⟩
         have hgw0 : GW W6 W9 bn nn aa ca (.slice none 0 0) [] := by
          subst hnn
          refine ⟨OwnR.nil _ _ _ _ _, hB9, hbn, hO9, hne, by simp [Value.ownBlock], fun g _ => by simp [Value.ownBlock], ?_⟩
          have e : setM (nclT (nod0 d.n x.m) aa ca none 0) 7 [.int .i64 (goodR x.m.rings).a, .int .i64 (goodR x.m.rings).b, .int .i64 (goodR x.m.rings).c, .int .i64 (goodR x.m.rings).g] = cellsW ⟨mkPath x.m, false, d.n.label, aclOf x.m.acl, (goodR x.m.rings).a, (goodR x.m.rings).b, (goodR x.m.rings).c, (goodR x.m.rings).g, [], goodL x.m.by_⟩ aa ca (.slice none 0 0) := by
           unfold nclT nod0 cellsW
           rw [hdir]
           rfl
          rw [← e]
          exact hN9
         have hone4 : ∀ v ∈ ([.int .i64 (goodR x.m.rings).a, .int .i64 (goodR x.m.rings).b, .int .i64 (goodR x.m.rings).c, .int .i64 (goodR x.m.rings).g] : List Value), v.oneCell' = true := by intro v hv; simp at hv; rcases hv with rfl | rfl | rfl | rfl <;> rfl
         have hfin0 : mkN d.n x.m = { nn with words := x.m.words.take 16 } := by subst hnn; unfold mkN; rw [hdir]; simp
         replace hfin0 : Aside _ := hfin0
         clear hN hO hB7 hb8 hrg h4c hm1 hN9 hO9 hnn
         go_upto_block 4 with (first | (refine wpList_store_part rfl _ _ rfl bn 7 rfl [.int .i64 (goodR x.m.rings).a, .int .i64 (goodR x.m.rings).b, .int .i64 (goodR x.m.rings).c, .int .i64 (goodR x.m.rings).g] rfl hth9 hsz4 hone4 hW9 ?_) | fail)
         clear hth9 hW9 hone4
         go_cut [16] from 39 to 129 (fun s16 wq => ∃ v, GW W6 wq bn nn aa ca v (x.m.words.take 16))
         case first =>
          obtain ⟨m2, hm2⟩ : ∃ m2, x.m.words.length = m2 := ⟨_, rfl⟩
          replace hm2 : Aside (x.m.words.length = m2) := hm2
          go_wp2_with fail
          go_loopw [16] (fun t16 wr => ∃ k : Nat, k ≤ m2 ∧ k ≤ 16 ∧ t16 = .int .i64 (k : Int) ∧ ∃ v, GW W6 wr bn nn aa ca v (x.m.words.take k)) (fun t16 _ => 16 - (Go.RowKit.intOf t16).toNat)
          case atStart => exact ⟨0, by omega, by omega, rfl, _, by simpa using hgw0⟩
          case round =>
           clear hgw0
           obtain ⟨k, hk, hk16, rfl, v, hgw⟩ := hrel
           have hmw := ((h4.then hgw.b).mb.1 11 _ rfl).1
           rw [hm2.out] at hmw
           by_cases hlk : k < m2 ∧ k < 16
           ·obtain ⟨qv, hqv⟩ : ∃ qv, x.m.words[k]? = some qv := ⟨_, List.getElem?_eq_getElem (by rw [hm2.out]; exact hlk.1)⟩
            obtain ⟨yw, hyw, -⟩ := h4.xa.w k qv hqv
            have hword : ∀ W, Below W6.heap.size W6 W → W.cell? (yw.add k) = some (.int .i64 qv) := fun W q => by
             obtain ⟨y', hy', hc'⟩ := (h4.then q).xa.w k qv hqv
             rw [hyw] at hy'
             obtain rfl := Option.some.inj hy'
             exact hc'
            rw [hyw] at hmw
            have hwt : x.m.words.take (k + 1) = x.m.words.take k ++ [qv] := by rw [List.take_add_one, hqv]; rfl
            replace hwt : Aside _ := hwt
            replace hyw : Aside _ := hyw
            have hg0 : GW W6 wr.drew bn nn aa ca v (x.m.words.take k) := hgw.then (Below.refl _ _).drew
            have j1 : (k : Int) < (m2 : Int) := by omega
            have j2 : (k : Int) < 16 := by omega
            clear hqv hgw
            go_wp2_with fail
            refine wp_region_held_drew (S := (fun W => Below W6.heap.size W6 W)) (by kernel_rfl) (by exact hg0.b) ?_
            intro hHeld
            generalize wr.drew = w0 at *
            refine tkA 0 ?_
            refine tkA 2 ?_
            refine tkB 3 (y := yields_cell (by rfl) _ rfl ⟨bm, 11, none⟩ rfl (.slice (some yw) m2 x.cw) (fun _ q => by have := ((h4.then q).mb.1 11 _ rfl).1; rw [hyw.out, hm2.out] at this; exact this) wds_load) (h := ?_)
            refine tkA 4 ?_
            refine tkA 5 ?_
            refine tkB 6 (y := yields_cell (by rfl) _ rfl (yw.add k) rfl (.int .i64 qv) (fun _ q => hword _ q) i64_load) (h := ?_)
            refine tkR (rs := [1, 7]) ?_
            refine tkC (fun K hK => ?_) ?_
            ·skip
             have hcf := (hg0.k.1 11 _ rfl).1
             go_simp
             refine hK.out _ _ (hg0.b) ?_
             clear hHeld hK
             intro hHeld
             obtain ⟨w1, hww⟩ : ∃ w', w' = w0 := ⟨_, rfl⟩
             subst hww
             have hg1 := hg0
             (try simp only [Act.put, zsA, zsB, zsC])
             refine tkR (rs := [7]) ?_
             refine tkC (fun K hK => ?_) AllReadyH.nil
             go_simp
             refine hK.out _ _ (Below.then hg1.b (alloc_below _ _)) ?_
             clear hHeld hK
             intro hHeld
             obtain ⟨vz, wz, hap, hoz, hgz⟩ := OwnR.push wd_okT hg1.o hg1.b.size qv #[.int .i64 qv] rfl 2 (by rw [List.length_take]; omega)
             obtain ⟨hkz, hBz, hGz⟩ := hg1.push hgz hoz
             have hg2 := hg1.then (alloc_below w1 (.cells #[.int .i64 qv] 2))
             obtain ⟨w2, hww⟩ : ∃ w', w1.alloc (.cells #[.int .i64 qv] 2) = w' := ⟨_, rfl⟩
             rw [hww] at hg2 hap hHeld ⊢
             clear hww
             (try simp only [Act.put, zsA, zsB, zsC])
             refine tkR (rs := [8]) ?_
             refine tkC (fun K hK => ?_) AllReadyH.nil
             refine step_append rfl _ _ rfl rfl rfl rfl hap ?_
             (try simp only [Act.put, zsA, zsB, zsC])
             refine hK.out _ _ (hBz) ?_
             clear hHeld hK
             intro hHeld
             obtain ⟨hcz1, hcz2⟩ := hkz.1 11 _ rfl
             obtain ⟨av, cv, hvv, -, -, -⟩ := OwnR.slice wd_okT.len hoz
             generalize (x.m.words.take k ++ [qv]).length = lz at hvv
             subst hvv
             (try simp only [Act.put, zsA, zsB, zsC])
             refine tkA 9 ?_
             refine tkR (rs := [10]) ?_
             refine tkC (fun K hK => ?_) AllReadyH.nil
             go_simp
             refine hK.out _ _ (hGz.b) ?_
             clear hHeld hK
             intro hHeld
             (try simp only [Act.put, zsA, zsB, zsC])
             refine wpAnyH_done (by kernel_rfl) ?_ _
             go_wp2_with fail
             exact ⟨⟨k + 1, by omega, by omega, by simp, _, by rw [hwt.out]; exact hGz⟩, by simp [Go.RowKit.intOf]; omega⟩
            refine tkC (fun K hK => ?_) AllReadyH.nil
            go_simp
            refine hK.out _ _ (Below.then hg0.b (alloc_below _ _)) ?_
            clear hHeld hK
            intro hHeld
            obtain ⟨vz, wz, hap, hoz, hgz⟩ := OwnR.push wd_okT hg0.o hg0.b.size qv #[.int .i64 qv] rfl 2 (by rw [List.length_take]; omega)
            obtain ⟨hkz, hBz, hGz⟩ := hg0.push hgz hoz
            have hg1 := hg0.then (alloc_below w0 (.cells #[.int .i64 qv] 2))
            obtain ⟨w1, hww⟩ : ∃ w', w0.alloc (.cells #[.int .i64 qv] 2) = w' := ⟨_, rfl⟩
            rw [hww] at hg1 hap hHeld ⊢
            clear hww
            (try simp only [Act.put, zsA, zsB, zsC])
            refine tkR (rs := [1]) ?_
            refine tkC (fun K hK => ?_) AllReadyH.nil
            have hcf := (hg1.k.1 11 _ rfl).1
            go_simp
            refine hK.out _ _ (hg1.b) ?_
            clear hHeld hK
            intro hHeld
            obtain ⟨w2, hww⟩ : ∃ w', w' = w1 := ⟨_, rfl⟩
            subst hww
            have hg2 := hg1
            (try simp only [Act.put, zsA, zsB, zsC])
            refine tkR (rs := [8]) ?_
            refine tkC (fun K hK => ?_) AllReadyH.nil
            refine step_append rfl _ _ rfl rfl rfl rfl hap ?_
            (try simp only [Act.put, zsA, zsB, zsC])
            refine hK.out _ _ (hBz) ?_
            clear hHeld hK
            intro hHeld
            obtain ⟨hcz1, hcz2⟩ := hkz.1 11 _ rfl
            obtain ⟨av, cv, hvv, -, -, -⟩ := OwnR.slice wd_okT.len hoz
            generalize (x.m.words.take k ++ [qv]).length = lz at hvv
            subst hvv
            (try simp only [Act.put, zsA, zsB, zsC])
            refine tkA 9 ?_
            refine tkR (rs := [10]) ?_
            refine tkC (fun K hK => ?_) AllReadyH.nil
            go_simp
            refine hK.out _ _ (hGz.b) ?_
            clear hHeld hK
            intro hHeld
            (try simp only [Act.put, zsA, zsB, zsC])
            refine wpAnyH_done (by kernel_rfl) ?_ _
            go_wp2_with fail
            exact ⟨⟨k + 1, by omega, by omega, by simp, _, by rw [hwt.out]; exact hGz⟩, by simp [Go.RowKit.intOf]; omega⟩
           ·have hend : x.m.words.take k = x.m.words.take 16 := by
              have hmm := hm2.out
              by_cases h16 : k = 16
              ·rw [h16]
              ·rw [List.take_of_length_le (by omega), List.take_of_length_le (by omega)]
            rw [hend] at hgw
            by_cases hin : k < m2
            ·obtain rfl : k = 16 := by omega
             have j1 : ((16 : Nat) : Int) < (m2 : Int) := by omega
             go_wp2_with fail
             go_meet
             exact ⟨v, hgw⟩
            ·obtain rfl : k = m2 := by omega
             go_wp2_with fail
             go_meet
             exact ⟨v, hgw⟩
         case rest =>
          obtain ⟨v, hgw⟩ := hcut
          obtain ⟨wa, cw, hvv, -, -, hwr⟩ := OwnR.slice wd_okT.len hgw.o
          subst hvv
          obtain ⟨y, hy⟩ : ∃ y : PN, y = ⟨{ nn with words := x.m.words.take 16 }, aa, ca, wa, cw⟩ := ⟨_, rfl⟩
          have hyn : y.n = mkN d.n x.m := by rw [hfin0.out, hy]
          have hyk : BlkL bn y.cs wc := by rw [hy]; exact hgw.k
          have hyA : y.At wc := by
           rw [hy]
           obtain ⟨a9, c9, he9, -, -, hr9⟩ := OwnR.slice gr_okT.len hgw.a
           cases he9
           exact ⟨row_grs hr9, row_wrds hwr⟩
          have hyB : PN.Abv w.heap.size y := by
           rw [hy]
           exact ⟨fun q hq => Nat.le_trans h4.g.b.size (own_abv hgw.a q hq), fun q hq => Nat.le_trans h4.g.b.size (own_abv hgw.o q hq)⟩
          have hgb := hgw.b
          clear hgw hwr hy hfin0
          have hT9 := h4.then hgb
          have hrn9 : RowN wc va l := ⟨by obtain ⟨va', vc', hvv, -, -, hr'⟩ := OwnR.slice pn_ok.len hT9.g.o; cases hvv; exact hr', hT9.g.p⟩
          have hyr := hyk.range
          have hung := Tryz.underlying36
          have hszY : (Tryz.prog.info? 36).map (·.size) = some y.cs.length := by rw [pn_len]; kernel_rfl
          have hpl := put_len l y
          have hgi := fun v9 W9 (q : OwnN W9 wc.heap.size v9 (putP l y)) (b : Below wc.heap.size wc W9) => grown_GI hT9.g hyA hyB q b
          have hfin : Aside (((ms.map (·.m)).take (i + 1)).foldl growStep (firstN L) = namesP (putP l y)) := by show _ = _; rw [put_names, hyn, hT.out]; exact hst'.out
          clear h4 hT9
          go_wp2_with (first | (refine wpList_load_row rfl _ rfl bn rfl y.cs hyr hung rfl hszY ?_) | fail)
          refine (rputT_any va vc l y (by omega) wc hrn9).mono ?_
          rintro e W9 ⟨v9, rfl, ho9, hB9⟩
          have g9 := hgi v9 W9 ho9 hB9
          clear hgi hrn9 hyr ho9
          go_wp2_with fail
          exact ⟨⟨i + 1, putP l y, by omega, by omega, by simp, g9, by omega, hfin⟩, by simp [Go.RowKit.intOf]; omega⟩
        ·rw [hdir] at hm1
         have hNd : BlkL bn (nclT (nod0 d.n x.m) aa ca none 0) wc.drew := hN
         have hOd : OwnGr wc.drew W6.heap.size (.slice aa (aclOf x.m.acl).length ca) (aclOf x.m.acl) := hO.below (Below.refl _ _).drew
         have hS0 : Below W6.heap.size W6 wc.drew := hB7.drew
         have hone4 : ∀ v ∈ ([.int .i64 (joinL d.n.label (goodL x.m.up)).s, .int .i64 (joinL d.n.label (goodL x.m.up)).c, .int .i64 (joinL d.n.label (goodL x.m.up)).i, .int .i64 (joinL d.n.label (goodL x.m.up)).k] : List Value), v.oneCell' = true := by intro v hv; simp at hv; rcases hv with rfl | rfl | rfl | rfl <;> rfl
         clear hN hO hB7 h4c
         go_wp2_with fail
         refine wp_region_held_drew (S := (fun W => Below W6.heap.size W6 W)) (by kernel_rfl) (by first | exact hSz | exact hS2 | exact hS1 | exact hS0) ?_
         intro hHeld
         (first | (refine tkA 0 ?_) | (refine tkB (v := undef) 0 (y := Or.inr ⟨by rfl, rfl⟩) (h := ?_)) | fail)
         (first | (refine tkB 1 (y := yields_at (by rfl) _ rfl ⟨bd, 2, none⟩ rfl [.int .i64 d.n.label.s, .int .i64 d.n.label.c, .int .i64 d.n.label.i, .int .i64 d.n.label.k] (fun _ q => blk_four (h4.then q).db.1 rfl rfl rfl rfl) Tryz.underlying30 rfl hsl) (h := ?_)) | (refine tkB (v := undef) 1 (y := Or.inr ⟨by rfl, rfl⟩) (h := ?_)) | fail)
         (first | (refine tkA 2 ?_) | (refine tkB (v := undef) 2 (y := Or.inr ⟨by rfl, rfl⟩) (h := ?_)) | fail)
         (first | (refine tkB 3 (y := yields_at (by rfl) _ rfl ⟨bm, 2, none⟩ rfl [.int .i64 x.m.up.s, .int .i64 x.m.up.c, .int .i64 x.m.up.i, .int .i64 x.m.up.k] (fun _ q => blk_four (h4.then q).mb.1 rfl rfl rfl rfl) Tryz.underlying30 rfl hsl) (h := ?_)) | (refine tkB (v := undef) 3 (y := Or.inr ⟨by rfl, rfl⟩) (h := ?_)) | fail)
         first | (refine tkB (v := undef) 4 (y := Or.inr ⟨by rfl, rfl⟩) (h := ?_)) | (refine tkR (rs := [4]) ?_; refine tkC (fun K hK => ?_) AllReadyH.nil; go_simp; (first | (go_at_call 45; refine (good_any x.m.up _).mono ?_; rintro e w1 ⟨rfl, hb1⟩; have hS1 := Below.then hS0 hb1) | (go_at_call 49; refine (rljoin_any d.n.label (goodL x.m.up) _).mono ?_; rintro e w2 ⟨rfl, hb2⟩; have hS2 := Below.then hS1 hb2; obtain ⟨wz, hwz, hthz, hNz, hSz⟩ := put_mid (stab_blk _ _ _ _ (stab_blk _ _ _ _ hNd hb1) hb2) 2 [.int .i64 (joinL d.n.label (goodL x.m.up)).s, .int .i64 (joinL d.n.label (goodL x.m.up)).c, .int .i64 (joinL d.n.label (goodL x.m.up)).i, .int .i64 (joinL d.n.label (goodL x.m.up)).k] (by simp [nclT]) (by simp [nclT]) hS2 hbn)); refine hK.out _ _ (by first | exact hSz | exact hS2 | exact hS1 | exact hS0) ?_; clear hHeld hK; intro hHeld; (try simp only [Act.put, zsA, zsB, zsC])) | fail
         first | (refine tkB (v := undef) 5 (y := Or.inr ⟨by rfl, rfl⟩) (h := ?_)) | (refine tkR (rs := [5]) ?_; refine tkC (fun K hK => ?_) AllReadyH.nil; go_simp; (first | (go_at_call 45; refine (good_any x.m.up _).mono ?_; rintro e w1 ⟨rfl, hb1⟩; have hS1 := Below.then hS0 hb1) | (go_at_call 49; refine (rljoin_any d.n.label (goodL x.m.up) _).mono ?_; rintro e w2 ⟨rfl, hb2⟩; have hS2 := Below.then hS1 hb2; obtain ⟨wz, hwz, hthz, hNz, hSz⟩ := put_mid (stab_blk _ _ _ _ (stab_blk _ _ _ _ hNd hb1) hb2) 2 [.int .i64 (joinL d.n.label (goodL x.m.up)).s, .int .i64 (joinL d.n.label (goodL x.m.up)).c, .int .i64 (joinL d.n.label (goodL x.m.up)).i, .int .i64 (joinL d.n.label (goodL x.m.up)).k] (by simp [nclT]) (by simp [nclT]) hS2 hbn)); refine hK.out _ _ (by first | exact hSz | exact hS2 | exact hS1 | exact hS0) ?_; clear hHeld hK; intro hHeld; (try simp only [Act.put, zsA, zsB, zsC])) | fail
         (first | (refine tkA 6 ?_) | (refine tkB (v := undef) 6 (y := Or.inr ⟨by rfl, rfl⟩) (h := ?_)) | fail)
         refine tkR (rs := [7]) ?_; refine tkC (fun K hK => ?_) AllReadyH.nil; refine step_store_part rfl _ _ rfl bn 2 rfl [.int .i64 (joinL d.n.label (goodL x.m.up)).s, .int .i64 (joinL d.n.label (goodL x.m.up)).c, .int .i64 (joinL d.n.label (goodL x.m.up)).i, .int .i64 (joinL d.n.label (goodL x.m.up)).k] rfl hthz hsl hone4 hwz ?_; (try simp only [Act.put, zsA, zsB, zsC]); refine hK.out _ _ (by first | exact hSz | exact hS2 | exact hS1 | exact hS0) ?_; clear hHeld hK; intro hHeld; (try simp only [Act.put, zsA, zsB, zsC])
         refine wpAnyH_done (by kernel_rfl) ?_ _
         have hOz : OwnGr wz W6.heap.size (.slice aa (aclOf x.m.acl).length ca) (aclOf x.m.acl) := by rw [← hwz]; exact ((hOd.below hb1).below hb2).mid hne 2 _
         obtain ⟨y, hy⟩ : ∃ y : PN, y = ⟨mkN d.n x.m, aa, ca, none, 0⟩ := ⟨_, rfl⟩
         have hyn : y.n = mkN d.n x.m := by rw [hy]
         have hyk : BlkL bn y.cs wz := by
          have e : setM (nclT (nod0 d.n x.m) aa ca none 0) 2 [.int .i64 (joinL d.n.label (goodL x.m.up)).s, .int .i64 (joinL d.n.label (goodL x.m.up)).c, .int .i64 (joinL d.n.label (goodL x.m.up)).i, .int .i64 (joinL d.n.label (goodL x.m.up)).k] = y.cs := by
           rw [hy]
           unfold PN.cs nclT nod0 mkN
           rw [hdir]
           rfl
          rw [← e]
          exact hNz
         have hyA : y.At wz := by
          rw [hy]
          obtain ⟨a9, c9, he9, -, -, hr9⟩ := OwnR.slice gr_okT.len hOz
          cases he9
          have hm : (mkN d.n x.m).acl = aclOf x.m.acl ∧ (mkN d.n x.m).words = [] := by unfold mkN; rw [hdir]; exact ⟨rfl, rfl⟩
          exact ⟨by show GrsAt wz aa (mkN d.n x.m).acl; rw [hm.1]; exact row_grs hr9, fun j q hq => by rw [show (PN.n ⟨mkN d.n x.m, aa, ca, none, 0⟩).words = [] from hm.2] at hq; simp at hq⟩
         have hyB : PN.Abv w.heap.size y := by
          rw [hy]
          exact ⟨fun q hq => Nat.le_trans h4.g.b.size (own_abv hOz q hq), fun q hq => by cases hq⟩
         clear hNz hOz hOd hNd hy hthz
         have hT9 := h4.then hSz
         have hrn9 : RowN wz va l := ⟨by obtain ⟨va', vc', hvv, -, -, hr'⟩ := OwnR.slice pn_ok.len hT9.g.o; cases hvv; exact hr', hT9.g.p⟩
         have hyr := hyk.range
         have hung := Tryz.underlying36
         have hszY : (Tryz.prog.info? 36).map (·.size) = some y.cs.length := by rw [pn_len]; kernel_rfl
         have hpl := put_len l y
         have hgi := fun v9 W9 (q : OwnN W9 wz.heap.size v9 (putP l y)) (b : Below wz.heap.size wz W9) => grown_GI hT9.g hyA hyB q b
         have hfin : Aside (((ms.map (·.m)).take (i + 1)).foldl growStep (firstN L) = namesP (putP l y)) := by show _ = _; rw [put_names, hyn, hT.out]; exact hst'.out
         clear h4 hT9
         go_wp2_with (first | (refine wpList_load_row rfl _ rfl bn rfl y.cs hyr hung rfl hszY ?_) | fail)
         refine (rputT_any va vc l y (by omega) wz hrn9).mono ?_
         rintro e W9 ⟨v9, rfl, ho9, hB9⟩
         have g9 := hgi v9 W9 ho9 hB9
         clear hgi hrn9 hyr ho9
         go_wp2_with fail
         exact ⟨⟨i + 1, putP l y, by omega, by omega, by simp, g9, by omega, hfin⟩, by simp [Go.RowKit.intOf]; omega⟩
      ·have hst2 : T = namesP l := by
         rw [hst']
         simp only [Option.map]
         rw [if_neg]
         rintro ⟨h1, h2⟩
         exact hgo ⟨h1, by cases fe <;> simp_all⟩
       clear hst'
       cases hdd : d.n.dir
       ·rw [hdd] at hd1
        go_wp2_with (first | (refine wpList_store_row rfl _ _ rfl W5.heap.size rfl (foundCs fe) rfl hth6 hszn honen hW6 ?_) | fail)
        exact ⟨⟨i + 1, l, by omega, by omega, by simp, g6, by omega, by rw [hT.out]; exact hst2⟩, by simp [Go.RowKit.intOf]; omega⟩
       ·rw [hdd] at hd1
        obtain ⟨z, rfl⟩ : ∃ z, fe = some z := by cases fe with
         | none => exact absurd ⟨hdd, rfl⟩ hgo
         | some z => exact ⟨z, rfl⟩
        go_wp2_with (first | (refine wpList_store_row rfl _ _ rfl W5.heap.size rfl (foundCs (some z)) rfl hth6 hszn honen hW6 ?_) | fail)
        exact ⟨⟨i + 1, l, by omega, by omega, by simp, g6, by omega, by rw [hT.out]; exact hst2⟩, by simp [Go.RowKit.intOf]; omega⟩
    ·rw [if_pos he] at hst'
     have f0 : (p.toList == [47]) = true := by rw [← slash_lit]; exact he
     go_wp2_with fail
     exact ⟨⟨i + 1, l, by omega, by omega, by simp, g2, by omega, by rw [hT.out]; exact hst'⟩, by simp [Go.RowKit.intOf]; omega⟩
   ·have hend : (ms.map (·.m)).take i = (ms.map (·.m)).take 14 := by
      have hmm : (ms.map (·.m)).length = m := by rw [List.length_map]; exact hm.out
      by_cases h4 : i = 14
      ·rw [h4]
      ·rw [List.take_of_length_le (by omega), List.take_of_length_le (by omega)]
    have hRl : namesP l = R := by rw [← hf.out, hend]; exact hR'.out
    clear hend hrn hrl
    by_cases hin : i < m
    ·obtain rfl : i = 14 := by omega
     have i1 : ((14 : Nat) : Int) < (m : Int) := by omega
     go_wp2_with fail
     exact bodyPost_ret (v := .slice va l.length vc) (by simp [results, Tryz.results27, go_sem]) rfl ⟨_, l, rfl, g.o, g.p, hRl, g.b, g.a⟩
    ·obtain rfl : i = m := by omega
     go_wp2_with fail
     exact bodyPost_ret (v := .slice va l.length vc) (by simp [results, Tryz.results27, go_sem]) rfl ⟨_, l, rfl, g.o, g.p, hRl, g.b, g.a⟩
end Go.Proofs.YtidihdiffiffmaaGreatDoor
namespace Go.Proofs.YtidihdiffiffmaaGreatDoor
open Go.RowKit
set_option maxRecDepth 8000
set_option linter.unusedSimpArgs false
set_option linter.unusedVariables false
theorem grow_fewM (ts : List Lab) (ms : List Mk) : (growN ts ms).length ≤ 19 := by
 have putN_len : ∀ (l : List Nod) (x : Nod), (putN l x).length ≤ l.length + 1 := fun l x => by
  unfold putN
  have h1 : (dropN l x.path).length ≤ l.length := List.length_filter_le _ _
  have h2 := congrArg List.length (List.takeWhile_append_dropWhile (p := fun y : Nod => lt y.path x.path) (l := dropN l x.path))
  rw [List.length_append] at h2 ⊢
  rw [List.length_cons]
  omega
 have step_len : ∀ (l : List Nod) (m : Mk), (growStep l m).length ≤ l.length + 1 := fun l m => by
  unfold growStep
  split
  ·omega
  ·split
   ·omega
   ·split
    ·exact putN_len l _
    ·omega
 have fold_len : ∀ (ms : List Mk) (l : List Nod), (ms.foldl growStep l).length ≤ l.length + ms.length := fun ms => by
  induction ms with
  | nil => intro l; simp
  | cons m r ih =>
   intro l
   have h1 := ih (growStep l m)
   have h2 := step_len l m
   simp only [List.foldl_cons, List.length_cons]
   omega
 unfold growN
 have h1 := fold_len (ms.take 14) (firstN ((ts.take 4).map goodL))
 have h2 : (ms.take 14).length ≤ 14 := by rw [List.length_take]; omega
 have h3 := dist_len ((ts.take 4).map goodL) ((ts.take 4).map goodL).length
 have h4 : ((ts.take 4).map goodL).length ≤ 4 := by rw [List.length_map, List.length_take]; omega
 have h5 : (firstN ((ts.take 4).map goodL)).length = (distTo ((ts.take 4).map goodL) ((ts.take 4).map goodL).length).length + 1 := by simp [firstN, firstTo]
 omega
structure GT (B : Nat) (W : World) (a : Option Addr) (c : Nat) (l : List PN) (ts : List Lab) (ms : List Mk) : Prop where
 row : RowN W a l
 names : namesP l = growN ts ms
 abv : ∀ x ∈ l, PN.Abv B x
 own : ∀ y, a = some y → B ≤ y.block
section
variable {B : Nat} {W W' : World} {a : Option Addr} {c : Nat} {l : List PN} {ts : List Lab} {ms : List Mk}
theorem GT.below (h : GT B W a c l ts ms) (b : Below W.heap.size W W') : GT B W' a c l ts ms := ⟨h.row.below b, h.names, h.abv, h.own⟩
theorem GT.tree (h : GT B W a c l ts ms) : Tree (namesP l) := by rw [h.names]; exact grow_tree ts ms
theorem GT.len (h : GT B W a c l ts ms) : l.length ≤ 19 := by
 have := grow_fewM ts ms
 rw [← h.names] at this
 simpa [namesP] using this
theorem GT.fine (h : GT B W a c l ts ms) : FineL l := ⟨by have := h.len; omega, h.tree.ord, fun x hx => h.tree.ok x.n (List.mem_map.2 ⟨x, hx, rfl⟩)⟩
theorem GT.pos (h : GT B W a c l ts ms) : 0 < l.length := by
 obtain ⟨r, hr, _⟩ := h.tree.root
 cases l with
 | nil => simp [namesP] at hr
 | cons x r => simp
theorem GT.mem (h : GT B W a c l ts ms) {x : PN} (hx : x ∈ l) : x.n ∈ namesP l := List.mem_map.2 ⟨x, hx, rfl⟩
theorem GT.lab (h : GT B W a c l ts ms) {x : PN} (hx : x ∈ l) : GL x.n.label := (nodC_zero.1 (h.fine.ok x hx)).2.1
theorem GT.path (h : GT B W a c l ts ms) {x : PN} (hx : x ∈ l) : x.n.path.size ≤ 78 := by
 obtain ⟨_, _, _, h78⟩ := check_path (nodC_zero.1 (h.fine.ok x hx)).1
 exact h78
theorem GT.turn (h : GT B W a c l ts ms) (hb : ∀ k, B ≤ k → W'.heap[k]? = W.heap[k]?) : GT B W' a c l ts ms := by
 have hcell : ∀ (q : Addr), B ≤ q.block → W'.cell? q = W.cell? q := fun q hq => World.cell?_of_block (hb _ hq)
 have hadd : ∀ (y : Addr) (k : Nat), (y.add k).block = y.block := fun y k => by unfold Addr.add; split <;> rfl
 refine ⟨⟨fun j x hx => ?_, fun x hx => ⟨fun j g hg => ?_, fun j g hg => ?_⟩⟩, h.names, h.abv, h.own⟩
 ·obtain ⟨y, hy, hc⟩ := h.row.r j x hx
  exact ⟨y, hy, fun i hi => by rw [hcell _ (by rw [hadd]; exact h.own y hy)]; exact hc i hi⟩
 ·obtain ⟨y, hy, h1, h2⟩ := (h.row.p x hx).g j g hg
  have hB := (h.abv x hx).1 y hy
  exact ⟨y, hy, by rw [hcell _ (by rw [hadd]; exact hB)]; exact h1, by rw [hcell _ (by show B ≤ (y.add (j * 2)).block; rw [hadd]; exact hB)]; exact h2⟩
 ·obtain ⟨y, hy, h1⟩ := (h.row.p x hx).w j g hg
  exact ⟨y, hy, by rw [hcell _ (by rw [hadd]; exact (h.abv x hx).2 y hy)]; exact h1⟩
end
end Go.Proofs.YtidihdiffiffmaaGreatDoor
namespace Go.Proofs.YtidihdiffiffmaaGreatDoor
open Go.RowKit
set_option maxRecDepth 8000
set_option linter.unusedSimpArgs false
set_option linter.unusedVariables false
def mayI (L : List Nod) (u : ByteArray) (t : Lab) (p : ByteArray) (m : Int) : Int := if mayE L u t p m = 0 then m else 0
def modsP (L : List Nod) (u : ByteArray) (t : Lab) (p : ByteArray) : Int := mayI L u t p 1 + mayI L u t p 2 + mayI L u t p 4
def gotN (L : List Nod) (p : ByteArray) : Nod := (findN L p).getD zeroN
def segP (L : List Nod) (u : ByteArray) (t : Lab) (p : ByteArray) : Sg :=
 if seeE L t p ≠ 0 ∨ (gotN L p).dir = true then zeroG else ⟨true, (gotN L p).words, modsP L u t p, (gotN L p).rg⟩
def segsP (L : List Nod) (u : ByteArray) (t : Lab) (bs : List ByteArray) : List Sg := bs.map (segP L u t)
def setN (p : ByteArray) (o : Nat) (v : Int) (x : Nod) : Nod := if eqs x.path p = true then { x with words := x.words.set o v } else x
def setW (L : List Nod) (p : ByteArray) (o : Nat) (v : Int) : List Nod := L.map (setN p o v)
def bindP (bs : List ByteArray) (k : Int) : ByteArray := bs.getD k.toNat ⟨#[]⟩
def wrL (L : List Nod) (bs : List ByteArray) : Option (Int × Int × Int) → List Nod
 | none => L
 | some (k, o, v) => setW L (bindP bs k) o.toNat v
structure Rn where
 l : List Nod
 c : Cp
 out : List Int
 over : Bool
 e : Int
def toldO (O : Ot) : List Int := if O.told = true then [O.v] else []
def runP (u : ByteArray) (t : Lab) (bs : List ByteArray) : Nat → List Nod → Cp → Rn
 | 0, L, c => ⟨L, c, [], false, 0⟩
 | n + 1, L, c =>
  if (stepC c (segsP L u t bs)).e ≠ 0 then ⟨L, c, [], true, (stepC c (segsP L u t bs)).e⟩
  else if (stepC c (segsP L u t bs)).t.hl = true then ⟨wrL L bs (stepC c (segsP L u t bs)).wr, (stepC c (segsP L u t bs)).t, toldO (stepC c (segsP L u t bs)), true, 0⟩
  else ⟨(runP u t bs n (wrL L bs (stepC c (segsP L u t bs)).wr) (stepC c (segsP L u t bs)).t).l, (runP u t bs n (wrL L bs (stepC c (segsP L u t bs)).wr) (stepC c (segsP L u t bs)).t).c,
   toldO (stepC c (segsP L u t bs)) ++ (runP u t bs n (wrL L bs (stepC c (segsP L u t bs)).wr) (stepC c (segsP L u t bs)).t).out, (runP u t bs n (wrL L bs (stepC c (segsP L u t bs)).wr) (stepC c (segsP L u t bs)).t).over, (runP u t bs n (wrL L bs (stepC c (segsP L u t bs)).wr) (stepC c (segsP L u t bs)).t).e⟩
/-! Runs one behind the other. -/
/-! A word that is set: all but words stays. -/
theorem setN_path (p : ByteArray) (o : Nat) (v : Int) (x : Nod) : (setN p o v x).path = x.path := by
 unfold setN; split <;> rfl
theorem setN_dir (p : ByteArray) (o : Nat) (v : Int) (x : Nod) : (setN p o v x).dir = x.dir := by
 unfold setN; split <;> rfl
theorem setN_label (p : ByteArray) (o : Nat) (v : Int) (x : Nod) : (setN p o v x).label = x.label := by
 unfold setN; split <;> rfl
theorem setN_acl (p : ByteArray) (o : Nat) (v : Int) (x : Nod) : (setN p o v x).acl = x.acl := by
 unfold setN; split <;> rfl
theorem setN_rg (p : ByteArray) (o : Nat) (v : Int) (x : Nod) : (setN p o v x).rg = x.rg := by
 unfold setN; split <;> rfl
theorem setN_len (p : ByteArray) (o : Nat) (v : Int) (x : Nod) : (setN p o v x).words.length = x.words.length := by
 unfold setN; split
 ·simp
 ·rfl
theorem setN_same (p : ByteArray) (o : Nat) (v : Int) (x : Nod) : setN p o v x = { x with words := (setN p o v x).words } := by
 unfold setN; split <;> rfl
theorem setN_nodC (p : ByteArray) (o : Nat) (v : Int) (x : Nod) : nodC (setN p o v x) = nodC x := by
 unfold setN
 split
 ·unfold nodC dirC segC rz Nod.rg
  simp only [List.length_set]
 ·rfl
theorem find_set (L : List Nod) (p : ByteArray) (o : Nat) (v : Int) (q : ByteArray) : findN (setW L p o v) q = (findN L q).map (setN p o v) := by
 unfold findN setW
 rw [List.find?_map]
 congr 1
 congr 1
 funext x
 show eqs (setN p o v x).path q = eqs x.path q
 rw [setN_path]
theorem step_set (t : Lab) (p : ByteArray) (o : Nat) (v : Int) (x : Option Nod) : stepE t (x.map (setN p o v)) = stepE t x := by
 cases x with
 | none => rfl
 | some d => simp only [Option.map_some, stepE, setN_dir, setN_label]
theorem way_set (L : List Nod) (p : ByteArray) (o : Nat) (v : Int) (t : Lab) : ∀ (r ms : List ByteArray), wayE (setW L p o v) t ms r = wayE L t ms r
 | [], ms => by rw [wayE, wayE]
 | n :: r, ms => by rw [wayE, wayE, find_set, step_set, way_set L p o v t r]
theorem see_set (L : List Nod) (p : ByteArray) (o : Nat) (v : Int) (t : Lab) (q : ByteArray) : seeE (setW L p o v) t q = seeE L t q := by
 unfold seeE
 rw [way_set, find_set, Option.isNone_map]
theorem got_set (L : List Nod) (p : ByteArray) (o : Nat) (v : Int) (q : ByteArray) (hz : eqs (⟨#[]⟩ : ByteArray) p = false) : gotN (setW L p o v) q = setN p o v (gotN L q) := by
 unfold gotN
 rw [find_set]
 cases findN L q with
 | none =>
  show zeroN = setN p o v zeroN
  unfold setN
  rw [if_neg (by show ¬ eqs (⟨#[]⟩ : ByteArray) p = true; rw [hz]; decide)]
 | some d => rfl
theorem mod_set (p : ByteArray) (o : Nat) (v : Int) (x : Nod) (u : ByteArray) (t : Lab) (m : Int) : modE (setN p o v x) u t m = modE x u t m := by
 unfold modE
 rw [setN_label, setN_acl]
theorem may_set (L : List Nod) (p : ByteArray) (o : Nat) (v : Int) (u : ByteArray) (t : Lab) (q : ByteArray) (m : Int) : mayE (setW L p o v) u t q m = mayE L u t q m := by
 unfold mayE
 rw [see_set, find_set]
 cases h : findN L q with
 | none =>
  by_cases h0 : m < 1 ∨ 7 < m
  ·rw [if_pos h0, if_pos h0]
  rw [if_neg h0, if_neg h0]
  have hs : seeE L t q ≠ 0 := fun e => by
   obtain ⟨_, _, x, hx⟩ := see_zero.1 e
   rw [h] at hx
   cases hx
  rw [if_pos hs, if_pos hs]
 | some d =>
  simp only [Option.map_some, Option.getD_some]
  rw [mod_set]
theorem mods_set (L : List Nod) (p : ByteArray) (o : Nat) (v : Int) (u : ByteArray) (t : Lab) (q : ByteArray) : modsP (setW L p o v) u t q = modsP L u t q := by
 unfold modsP mayI
 rw [may_set, may_set, may_set]
theorem set_ordered {L : List Nod} (h : Ordered L) (p : ByteArray) (o : Nat) (v : Int) : Ordered (setW L p o v) := by
 unfold Ordered setW
 rw [List.pairwise_map]
 exact List.Pairwise.imp (fun {a b} q => by rw [setN_path, setN_path]; exact q) h
theorem set_tree {L : List Nod} (h : Tree L) (p : ByteArray) (o : Nat) (v : Int) : Tree (setW L p o v) := by
 refine ⟨fun x hx => ?_, set_ordered h.ord p o v, ?_, fun x hx hr => ?_⟩
 ·obtain ⟨y, hy, rfl⟩ := List.mem_map.1 hx
  rw [setN_nodC]
  exact h.ok y hy
 ·obtain ⟨r, hr, h1, h2⟩ := h.root
  exact ⟨setN p o v r, List.mem_map.2 ⟨r, hr, rfl⟩, by rw [setN_path]; exact h1, by rw [setN_label]; exact h2⟩
 ·obtain ⟨y, hy, rfl⟩ := List.mem_map.1 hx
  rw [setN_path] at hr
  obtain ⟨d, hd, h1, h2, h3, h4⟩ := h.up y hy hr
  refine ⟨setN p o v d, List.mem_map.2 ⟨d, hd, rfl⟩, ?_, ?_, ?_, fun q => ?_⟩
  ·rw [setN_path, setN_path]; exact h1
  ·rw [setN_dir]; exact h2
  ·rw [setN_label, setN_label]; exact h3
  ·rw [setN_dir] at q
   rw [setN_label, setN_label]
   exact h4 q
/-! What a process may: words of segments that its subject may write. -/
theorem mods_two (L : List Nod) (u : ByteArray) (t : Lab) (p : ByteArray) : hasM (modsP L u t p) 2 = true ↔ mayE L u t p 2 = 0 := by
 unfold modsP mayI
 by_cases h1 : mayE L u t p 1 = 0 <;> by_cases h2 : mayE L u t p 2 = 0 <;> by_cases h4 : mayE L u t p 4 = 0 <;> simp only [h1, h2, h4, if_true, if_false, iff_true, iff_false] <;> decide
theorem seg_is {L : List Nod} {u : ByteArray} {t : Lab} {p : ByteArray} (h : (segP L u t p).is = true) : seeE L t p = 0 ∧ (gotN L p).dir = false ∧ segP L u t p = ⟨true, (gotN L p).words, modsP L u t p, (gotN L p).rg⟩ := by
 unfold segP at h ⊢
 by_cases h0 : seeE L t p ≠ 0 ∨ (gotN L p).dir = true
 ·rw [if_pos h0] at h; cases h
 ·rw [if_neg h0]
  refine ⟨?_, ?_, rfl⟩
  ·exact Decidable.byContradiction fun q => h0 (.inl q)
  ·cases q : (gotN L p).dir with
   | false => rfl
   | true => exact absurd (.inr q) h0
theorem got_find {L : List Nod} {t : Lab} {p : ByteArray} (h : seeE L t p = 0) : findN L p = some (gotN L p) := by
 obtain ⟨_, _, x, hx⟩ := see_zero.1 h
 unfold gotN
 rw [hx]
 rfl
theorem kn_segs (L : List Nod) (u : ByteArray) (t : Lab) (bs : List ByteArray) (k : Int) (h : (kn (segsP L u t bs) k).is = true) : 0 ≤ k ∧ k < (bs.length : Int) ∧ kn (segsP L u t bs) k = segP L u t (bindP bs k) := by
 unfold kn at h ⊢
 by_cases h0 : k < 0
 ·rw [if_pos h0] at h; cases h
 rw [if_neg h0] at h ⊢
 have hl : (segsP L u t bs).length = bs.length := by simp [segsP]
 by_cases h1 : k.toNat < bs.length
 ·refine ⟨by omega, by omega, ?_⟩
  unfold segsP bindP
  rw [List.getD_eq_getElem?_getD, List.getD_eq_getElem?_getD, List.getElem?_map, List.getElem?_eq_getElem h1]
  rfl
 ·rw [List.getD_eq_getElem?_getD, List.getElem?_eq_none (by omega)] at h
  cases h
structure InvP (L : List Nod) : Prop where
 tr : Tree L
 fit : ∀ x ∈ L, ∀ w ∈ x.words, -9223372036854775808 ≤ w ∧ w ≤ 9223372036854775807
theorem seg_ok {L : List Nod} (h : InvP L) (u : ByteArray) (t : Lab) (p : ByteArray) : (segP L u t p).Ok := by
 by_cases hi : (segP L u t p).is = true
 ·obtain ⟨h1, h2, h3⟩ := seg_is hi
  rw [h3]
  obtain ⟨hx, _⟩ := find_some (got_find h1)
  have h4 := (nodC_zero.1 (h.tr.ok _ hx)).2.2.2.2.2 h2
  exact ⟨fun _ => h4.2.1, h.fit _ hx, by have := h4.2.2; show (gotN L p).words.length ≤ 1000; omega⟩
 ·unfold segP at hi ⊢
  by_cases h0 : seeE L t p ≠ 0 ∨ (gotN L p).dir = true
  ·rw [if_pos h0]; exact zeroG_ok
  ·rw [if_neg h0] at hi; exact absurd rfl hi
theorem segs_ok {L : List Nod} (h : InvP L) (u : ByteArray) (t : Lab) (bs : List ByteArray) : ∀ g ∈ segsP L u t bs, g.Ok := fun g hg => by
 obtain ⟨p, _, rfl⟩ := List.mem_map.1 hg
 exact seg_ok h u t p
theorem inv_set {L : List Nod} (h : InvP L) (p : ByteArray) (o : Nat) {v : Int} (hv : -9223372036854775808 ≤ v ∧ v ≤ 9223372036854775807) : InvP (setW L p o v) := by
 refine ⟨set_tree h.tr p o v, fun x hx w hw => ?_⟩
 obtain ⟨y, hy, rfl⟩ := List.mem_map.1 hx
 unfold setN at hw
 split at hw
 ·rcases List.mem_or_eq_of_mem_set hw with q | q
  ·exact h.fit y hy w q
  ·rw [q]; exact hv
 ·exact h.fit y hy w hw
def WrQ (c : Cp) (m : List Sg) (O : Ot) : Prop := ∀ k o y, O.wr = some (k, o, y) → (kn m k).is = true ∧ hasM (kn m k).md 2 = true ∧ inG (kn m k) o ∧ y = c.a
theorem ite_wrQ {c : Cp} {m : List Sg} {p : Prop} [Decidable p] {x y : Ot} (h1 : p → WrQ c m x) (h2 : ¬ p → WrQ c m y) : WrQ c m (if p then x else y) := by
 by_cases h : p
 ·rw [if_pos h]; exact h1 h
 ·rw [if_neg h]; exact h2 h
theorem wrQ_none {c : Cp} {m : List Sg} {O : Ot} (h : O.wr = none) : WrQ c m O := fun k o y q => by rw [h] at q; cases q
theorem wrE_zeroQ {c : Cp} {m : List Sg} {i : Ins} (e : ¬ wrE c m i ≠ 0) : (mSeg c m i).is = true ∧ hasM (mSeg c m i).md 2 = true ∧ inG (mSeg c m i) (mOff c i) := by
 have e' : wrE c m i = 0 := by simpa using e
 unfold wrE at e'
 by_cases q1 : (mSeg c m i).is = false
 ·rw [if_pos q1] at e'; cases e'
 rw [if_neg q1] at e'
 by_cases q2 : hasM (mSeg c m i).md 2 = false ∨ mayW (mSeg c m i).rg (mRing c i) = false
 ·rw [if_pos q2] at e'; cases e'
 rw [if_neg q2] at e'
 by_cases q3 : ¬ inG (mSeg c m i) (mOff c i)
 ·rw [if_pos q3] at e'; cases e'
 refine ⟨by simpa using q1, ?_, Decidable.not_not.1 q3⟩
 cases q : hasM (mSeg c m i).md 2 with
 | true => rfl
 | false => exact absurd (.inl q) q2
theorem wrQ_step (c : Cp) (m : List Sg) : WrQ c m (stepC c m) := by
 unfold stepC
 refine ite_wrQ (fun _ => wrQ_none rfl) (fun _ => ite_wrQ (fun _ => wrQ_none rfl) (fun _ => ?_))
 unfold opC
 refine ite_wrQ (fun _ => wrQ_none rfl) (fun _ => ?_)
 refine ite_wrQ (fun _ => ite_wrQ (fun _ => wrQ_none rfl) (fun _ => wrQ_none rfl)) (fun _ => ?_)
 refine ite_wrQ (fun _ => ite_wrQ (fun _ => wrQ_none rfl) (fun he => ?_)) (fun _ => ?_)
 ·intro k o y q
  simp only [Option.some.injEq, Prod.mk.injEq] at q
  obtain ⟨rfl, rfl, rfl⟩ := q
  have h := wrE_zeroQ he
  exact ⟨h.1, h.2.1, h.2.2, rfl⟩
 refine ite_wrQ (fun _ => wrQ_none rfl) (fun _ => ?_)
 refine ite_wrQ (fun _ => wrQ_none rfl) (fun _ => ?_)
 refine ite_wrQ (fun _ => ite_wrQ (fun _ => wrQ_none rfl) (fun _ => wrQ_none rfl)) (fun _ => ?_)
 refine ite_wrQ (fun _ => wrQ_none rfl) (fun _ => ?_)
 refine ite_wrQ (fun _ => wrQ_none rfl) (fun _ => ?_)
 refine ite_wrQ (fun _ => ite_wrQ (fun _ => wrQ_none rfl) (fun _ => wrQ_none rfl)) (fun _ => ?_)
 refine ite_wrQ (fun _ => wrQ_none rfl) (fun _ => ?_)
 refine ite_wrQ (fun _ => ite_wrQ (fun _ => wrQ_none rfl) (fun _ => wrQ_none rfl)) (fun _ => ?_)
 refine ite_wrQ (fun _ => ite_wrQ (fun _ => wrQ_none rfl) (fun _ => wrQ_none rfl)) (fun _ => ?_)
 exact ite_wrQ (fun _ => wrQ_none rfl) (fun _ => wrQ_none rfl)
theorem wr_nodes {L : List Nod} {u : ByteArray} {t : Lab} {bs : List ByteArray} {c : Cp} {k o y : Int} (h : (stepC c (segsP L u t bs)).wr = some (k, o, y)) :
    (0 ≤ k ∧ k < (bs.length : Int)) ∧ findN L (bindP bs k) = some (gotN L (bindP bs k)) ∧ mayE L u t (bindP bs k) 2 = 0 ∧ (0 ≤ o ∧ o < ((gotN L (bindP bs k)).words.length : Int)) ∧ y = c.a := by
 obtain ⟨h1, h2, h3, h4⟩ := wrQ_step c _ k o y h
 obtain ⟨g1, g2, g3⟩ := kn_segs L u t bs k h1
 rw [g3] at h1 h2 h3
 obtain ⟨e1, _, e3⟩ := seg_is h1
 rw [e3] at h2 h3
 exact ⟨⟨g1, g2⟩, got_find e1, (mods_two L u t _).1 h2, h3, h4⟩
theorem wrL_inv {L : List Nod} (h : InvP L) {u : ByteArray} {t : Lab} {bs : List ByteArray} {c : Cp} (hc : c.Ok) : InvP (wrL L bs (stepC c (segsP L u t bs)).wr) := by
 cases hw : (stepC c (segsP L u t bs)).wr with
 | none => exact h
 | some p =>
  obtain ⟨k, o, y⟩ := p
  have h1 := wr_nodes hw
  exact inv_set h _ _ (by rw [h1.2.2.2.2]; exact hc.a)
def FZ (O : Ot) : Prop := O.e ≠ 0 → O.t = zeroC
theorem ite_fz {p : Prop} [Decidable p] {x y : Ot} (h1 : p → FZ x) (h2 : ¬ p → FZ y) : FZ (if p then x else y) := by
 by_cases h : p
 ·rw [if_pos h]; exact h1 h
 ·rw [if_neg h]; exact h2 h
theorem fz_step (c : Cp) (m : List Sg) : FZ (stepC c m) := by
 have ok : ∀ t, FZ (okC t) := fun t h => absurd rfl h
 have fl : ∀ e, FZ (flt e) := fun e _ => rfl
 unfold stepC
 refine ite_fz (fun _ => ok _) (fun _ => ite_fz (fun _ => fl _) (fun _ => ?_))
 unfold opC
 refine ite_fz (fun _ => ok _) (fun _ => ?_)
 refine ite_fz (fun _ => ite_fz (fun _ => fl _) (fun _ => ok _)) (fun _ => ?_)
 refine ite_fz (fun _ => ite_fz (fun _ => fl _) (fun _ => fun h => absurd rfl h)) (fun _ => ?_)
 refine ite_fz (fun _ => ok _) (fun _ => ?_)
 refine ite_fz (fun _ => ok _) (fun _ => ?_)
 refine ite_fz (fun _ => ite_fz (fun _ => fl _) (fun _ => ok _)) (fun _ => ?_)
 refine ite_fz (fun _ => ok _) (fun _ => ?_)
 refine ite_fz (fun _ => ok _) (fun _ => ?_)
 refine ite_fz (fun _ => ite_fz (fun _ => fl _) (fun _ => ok _)) (fun _ => ?_)
 refine ite_fz (fun _ => ok _) (fun _ => ?_)
 refine ite_fz (fun _ => ite_fz (fun _ => fl _) (fun _ => ok _)) (fun _ => ?_)
 refine ite_fz (fun _ => ite_fz (fun _ => fl _) (fun _ => ok _)) (fun _ => ?_)
 exact ite_fz (fun _ => fun h => absurd rfl h) (fun _ => ok _)
theorem step_ps {c : Cp} (hc : c.Ok) {m : List Sg} (hm : ∀ g ∈ m, g.Ok) : (stepC c m).t.ps.length = 4 := by
 by_cases h : (stepC c m).e = 0
 ·exact (step_ok hc hm h).ps
 ·rw [fz_step c m h]; rfl
end Go.Proofs.YtidihdiffiffmaaGreatDoor
namespace Go.Proofs.YtidihdiffiffmaaGreatDoor
open Go.RowKit
set_option maxRecDepth 8000
set_option linter.unusedSimpArgs false
set_option linter.unusedVariables false
def dirS (j : Nat) : ByteArray := ⟨#[47, 108, UInt8.ofNat (48 + j)]⟩
def slpS : ByteArray := ⟨#[47, 112]⟩
def dgS (i : Nat) : ByteArray := ⟨#[UInt8.ofNat (48 + i)]⟩
def pS (j i : Nat) : ByteArray := dirS j ++ slpS ++ dgS i
def ppN (i : Nat) : ByteArray := ⟨#[112, UInt8.ofNat (48 + i)]⟩
def segX (p : ByteArray) (lab : Lab) (m : Int) (r : Rg) (ws : List Int) : Nod := ⟨p, false, lab, [⟨starS, m⟩], r.a, r.b, r.c, r.g, ws, ⟨0, 0, 0, 0⟩⟩
def mdX (ms : List Int) (i : Nat) : Int := if i < ms.length ∧ 0 < ms.getD i 0 % 8 then ms.getD i 0 % 8 else 7
def rgX (rs : List Rg) (i : Nat) : Rg := if i < rs.length then goodR (rs.getD i ⟨0, 0, 0, 0⟩) else ⟨4, 4, 4, 0⟩
def putX (j : Nat) (lab : Lab) (ps : List (List Ins)) (ms : List Int) (rs : List Rg) (L : List Nod) (i : Nat) : List Nod := putN L (segX (pS j i) lab (mdX ms i) (rgX rs i) (wordsN (ps.getD i [])))
def putsX (j : Nat) (lab : Lab) (ps : List (List Ins)) (ms : List Int) (rs : List Rg) (n : Nat) (L : List Nod) : List Nod := (List.range n).foldl (putX j lab ps ms rs) L
theorem putsX_next (j : Nat) (lab : Lab) (ps : List (List Ins)) (ms : List Int) (rs : List Rg) (n : Nat) (L : List Nod) : putsX j lab ps ms rs (n + 1) L = putX j lab ps ms rs (putsX j lab ps ms rs n L) n := by
 unfold putsX
 rw [List.range_succ, List.foldl_append]
 rfl
def putD (L : List Nod) (j : Nat) (ps : List (List Ins)) (ms : List Int) (rs : List Rg) : List Nod := match findN L (dirS j) with
 | none => L
 | some d => if d.dir = true then putsX j d.label ps ms rs (min ps.length 5) L else L
def madeN (ts : List Lab) (ks : List Mk) (ps : List (List Ins)) (ms : List Int) (rs : List Rg) : List Nod :=
 if 2 < ps.length then putD (putD (growN ts ks) 0 ps ms rs) 1 (ps.drop 1) ms rs else putD (growN ts ks) 0 ps ms rs
theorem pS_path : ∀ j : Fin 2, ∀ i : Fin 5, pS j i = pathB [nmK j, ppN i] ∧ parentOf (pS j i) = dirS j ∧ checkOf (pS j i) = 0 ∧ eqs (pS j i) slashS = false := by decide +kernel
theorem pS_inj : ∀ j j' : Fin 2, ∀ i i' : Fin 5, eqs (pS j i) (pS j' i') = true → j = j' ∧ i = i' := by decide +kernel
theorem pp_flat : ∀ j : Fin 2, ∀ i : Fin 5, (((47 : UInt8) ∉ bytes (nmK j)) ∧ 1 ≤ (nmK j).size) ∧ ((47 : UInt8) ∉ bytes (ppN i)) ∧ 1 ≤ (ppN i).size := by decide +kernel
theorem pp_not (i : Nat) : ¬ OkName (ppN i) := fun h => by
 obtain ⟨c, r, hb, hc⟩ := okName_head h
 have : bytes (ppN i) = [112, UInt8.ofNat (48 + i)] := rfl
 rw [this] at hb
 injection hb with h1 h2
 subst h1
 exact absurd hc (by decide)
theorem pS_notok {j i : Nat} (hj : j < 2) (hi : i < 5) : ¬ OkPath (pS j i) := by
 have h1 := (pS_path ⟨j, hj⟩ ⟨i, hi⟩).1
 have h2 := pp_flat ⟨j, hj⟩ ⟨i, hi⟩
 simp only at h1 h2
 rw [h1]
 exact path_not (fun n hn => by
  rcases List.mem_cons.1 hn with rfl | hn
  ·exact ⟨fun c hc e => h2.1.1 (by rw [← e]; exact hc), h2.1.2⟩
  ·rw [List.mem_singleton.1 hn]; exact ⟨fun c hc e => h2.2.1 (by rw [← e]; exact hc), h2.2.2⟩) (b := ppN i) (by simp) (pp_not i)
theorem mdX_b (ms : List Int) (i : Nat) : 1 ≤ mdX ms i ∧ mdX ms i ≤ 7 := by
 unfold mdX
 split
 ·rename_i h
  have := Int.emod_lt_of_pos (ms.getD i 0) (by decide : (0 : Int) < 8)
  omega
 ·omega
theorem chk_star : ∀ m : Fin 8, 1 ≤ m.val → chkA [⟨starS, (m.val : Int)⟩] = 0 := by decide +kernel
theorem chk_mdX (ms : List Int) (i : Nat) : chkA [⟨starS, mdX ms i⟩] = 0 := by
 have h := mdX_b ms i
 obtain ⟨k, hk⟩ : ∃ k : Nat, mdX ms i = (k : Int) := ⟨(mdX ms i).toNat, by omega⟩
 rw [hk] at h ⊢
 exact chk_star ⟨k, by omega⟩ (by show 1 ≤ k; omega)
theorem rgX_ok (rs : List Rg) (i : Nat) : OkR (rgX rs i) := by
 unfold rgX
 split
 ·exact goodR_ok _
 ·unfold OkR; decide
theorem zero_GL : GL (⟨0, 0, 0, 0⟩ : Lab) := by
 rw [← chkL_zero]
 decide
theorem segX_ok {j i : Nat} (hj : j < 2) (hi : i < 5) {lab : Lab} (hl : GL lab) (ms : List Int) (rs : List Rg) (l : List Ins) : nodC (segX (pS j i) lab (mdX ms i) (rgX rs i) (wordsN l)) = 0 := by
 have h1 := pS_path ⟨j, hj⟩ ⟨i, hi⟩
 refine nodC_zero.2 ⟨h1.2.2.1, hl, zero_GL, chk_mdX ms i, fun h => (by cases h), fun _ => ⟨fun e => ?_, rgX_ok rs i, wordsN_len l⟩⟩
 have h2 := h1.2.2.2
 have e' : pS j i = slashS := e
 simp only at h2
 rw [e'] at h2
 exact absurd h2 (by decide +kernel)
def Fresh (L : List Nod) (j i : Nat) : Prop := ∀ x ∈ L, OkPath x.path ∨ ∃ j' i', j' < 2 ∧ i' < 5 ∧ (j' < j ∨ (j' = j ∧ i' < i)) ∧ x.path = pS j' i'
theorem putX_len (L : List Nod) (n : Nod) : (putN L n).length ≤ L.length + 1 := by
 unfold putN dropN
 rw [List.length_append, List.length_cons]
 have h1 := List.takeWhile_append_dropWhile (p := fun x => lt x.path n.path) (l := L.filter fun x => !eqs x.path n.path)
 have h2 := congrArg List.length h1
 rw [List.length_append] at h2
 have h3 := List.length_filter_le (fun x => !eqs x.path n.path) L
 omega
theorem putX_good {L : List Nod} {j i : Nat} (hj : j < 2) (hi : i < 5) {d : Nod} (hI : InvP L) (hf : Fresh L j i) (hd : d ∈ L) (hp : d.path = dirS j) (hdd : d.dir = true) (ps : List (List Ins)) (ms : List Int) (rs : List Rg) :
    InvP (putX j d.label ps ms rs L i) ∧ Fresh (putX j d.label ps ms rs L i) j (i + 1) ∧ d ∈ putX j d.label ps ms rs L i ∧ (putX j d.label ps ms rs L i).length ≤ L.length + 1 := by
 have h1 := pS_path ⟨j, hj⟩ ⟨i, hi⟩
 simp only at h1
 obtain ⟨_, hg, _⟩ := nodC_zero.1 (hI.tr.ok d hd)
 have hnew : ∀ x ∈ L, x.path ≠ pS j i := fun x hx e => by
  rcases hf x hx with q | ⟨j', i', q1, q2, q3, q4⟩
  ·rw [e] at q; exact pS_notok hj hi q
  ·have := pS_inj ⟨j, hj⟩ ⟨j', q1⟩ ⟨i, hi⟩ ⟨i', q2⟩ (by simp only; rw [← e, q4]; exact eqs_iff.2 rfl)
   simp only [Fin.mk.injEq] at this
   omega
 have hok := segX_ok hj hi hg ms rs (ps.getD i [])
 refine ⟨⟨?_, fun x hx w hw => ?_⟩, fun x hx => ?_, ?_, putX_len _ _⟩
 ·exact hI.tr.put hok (fun e => by
    have h2 := h1.2.2.2
    have e' : pS j i = slashS := e
    rw [e'] at h2
    exact absurd h2 (by decide +kernel)) hnew hd (by rw [hp]; exact h1.2.1.symm) hdd (rov_self hg) (fun _ => rfl)
 ·rcases put_mem.1 hx with rfl | ⟨hx, _⟩
  ·exact wordsN_fit _ w hw
  ·exact hI.fit x hx w hw
 ·rcases put_mem.1 hx with rfl | ⟨hx, _⟩
  ·exact .inr ⟨j, i, hj, hi, .inr ⟨rfl, by omega⟩, rfl⟩
  ·rcases hf x hx with q | ⟨j', i', q1, q2, q3, q4⟩
   ·exact .inl q
   ·exact .inr ⟨j', i', q1, q2, by omega, q4⟩
 ·exact put_mem.2 (.inr ⟨hd, hnew d hd⟩)
theorem putsX_good {L : List Nod} {j : Nat} (hj : j < 2) {d : Nod} (hI : InvP L) (hf : Fresh L j 0) (hd : d ∈ L) (hp : d.path = dirS j) (hdd : d.dir = true) (ps : List (List Ins)) (ms : List Int) (rs : List Rg) : ∀ n, n ≤ 5 →
    InvP (putsX j d.label ps ms rs n L) ∧ Fresh (putsX j d.label ps ms rs n L) j n ∧ d ∈ putsX j d.label ps ms rs n L ∧ (putsX j d.label ps ms rs n L).length ≤ L.length + n
 | 0, _ => ⟨hI, hf, hd, Nat.le_refl _⟩
 | n + 1, hn => by
  obtain ⟨h1, h2, h3, h4⟩ := putsX_good hj hI hf hd hp hdd ps ms rs n (by omega)
  rw [putsX_next]
  obtain ⟨k1, k2, k3, k4⟩ := putX_good hj (by omega : n < 5) h1 h2 h3 hp hdd ps ms rs
  exact ⟨k1, k2, k3, by omega⟩
theorem putD_good {L : List Nod} {j : Nat} (hj : j < 2) (hI : InvP L) (hf : Fresh L j 0) (ps : List (List Ins)) (ms : List Int) (rs : List Rg) : InvP (putD L j ps ms rs) ∧ Fresh (putD L j ps ms rs) (j + 1) 0 ∧ (putD L j ps ms rs).length ≤ L.length + 5 := by
 have hup : ∀ M : List Nod, ∀ i, i ≤ 5 → Fresh M j i → Fresh M (j + 1) 0 := fun M i hi h x hx => by
  rcases h x hx with q | ⟨j', i', q1, q2, q3, q4⟩
  ·exact .inl q
  ·exact .inr ⟨j', i', q1, q2, by omega, q4⟩
 unfold putD
 cases h : findN L (dirS j) with
 | none => exact ⟨hI, hup L 0 (by omega) hf, by simp⟩
 | some d =>
  obtain ⟨hd, hp⟩ := find_some h
  show InvP (if d.dir = true then _ else L) ∧ _
  by_cases hdd : d.dir = true
  ·simp only [if_pos hdd]
   obtain ⟨k1, k2, k3, k4⟩ := putsX_good hj hI hf hd hp hdd ps ms rs (min ps.length 5) (Nat.min_le_right _ _)
   exact ⟨k1, hup _ _ (Nat.min_le_right _ _) k2, by have := Nat.min_le_right ps.length 5; omega⟩
  ·simp only [if_neg hdd]
   exact ⟨hI, hup L 0 (by omega) hf, by simp⟩
def FitM (ks : List Mk) : Prop := ∀ m ∈ ks, ∀ w ∈ m.words, -9223372036854775808 ≤ w ∧ w ≤ 9223372036854775807
theorem fold_fit : ∀ (ks : List Mk) {L : List Nod}, FitM ks → (∀ x ∈ L, ∀ w ∈ x.words, -9223372036854775808 ≤ w ∧ w ≤ 9223372036854775807) → ∀ x ∈ ks.foldl growStep L, ∀ w ∈ x.words, -9223372036854775808 ≤ w ∧ w ≤ 9223372036854775807
 | [], _, _, h => h
 | m :: r, L, hk, h => fold_fit r (fun q hq => hk q (List.mem_cons_of_mem _ hq)) (fun x hx w hw => by
  unfold growStep at hx
  split at hx
  ·exact h x hx w hw
  ·split at hx
   ·exact h x hx w hw
   ·split at hx
    ·rcases put_mem.1 hx with rfl | ⟨hx, _⟩
     ·unfold mkN at hw
      split at hw
      ·cases hw
      ·exact hk m List.mem_cons_self w (List.mem_of_mem_take hw)
     ·exact h x hx w hw
    ·exact h x hx w hw)
theorem grow_good (ts : List Lab) {ks : List Mk} (hk : FitM ks) : InvP (growN ts ks) ∧ Fresh (growN ts ks) 0 0 ∧ (growN ts ks).length ≤ 19 := by
 refine ⟨⟨grow_tree ts ks, ?_⟩, fun x hx => .inl (grow_paths ts ks x hx), grow_fewM ts ks⟩
 refine fold_fit _ (fun m hm => hk m (List.mem_of_mem_take hm)) (fun x hx w hw => ?_)
 rcases first_mem hx with rfl | ⟨k, t, _, _, rfl⟩
 ·cases hw
 ·cases hw
theorem made_good (ts : List Lab) {ks : List Mk} (hk : FitM ks) (ps : List (List Ins)) (ms : List Int) (rs : List Rg) : InvP (madeN ts ks ps ms rs) ∧ (madeN ts ks ps ms rs).length ≤ 29 := by
 obtain ⟨h1, h2, h3⟩ := grow_good ts hk
 obtain ⟨k1, k2, k3⟩ := putD_good (by omega : 0 < 2) h1 h2 ps ms rs
 unfold madeN
 split
 ·obtain ⟨q1, q2, q3⟩ := putD_good (by omega : 1 < 2) k1 k2 (ps.drop 1) ms rs
  exact ⟨q1, by omega⟩
 ·exact ⟨k1, by omega⟩
end Go.Proofs.YtidihdiffiffmaaGreatDoor
namespace Go.Proofs.YtidihdiffiffmaaGreatDoor
open Go.RowKit
set_option maxRecDepth 8000
set_option linter.unusedSimpArgs false
set_option linter.unusedVariables false
theorem need_ok (e : Int) (w : World) : Calls Tryz.prog 128 #[.bool true, .int .i64 e] w fun r w' => r = .returned (.tuple #[]) ∧ w' = w := by
 go_enter Tryz.func128, Tryz.ntmps128
 go_wp2_with fail
 refine bodyPost_end (v := .tuple #[]) (by simp [results, Tryz.results128, go_sem]) rfl ?_
 exact ⟨rfl, rfl⟩
theorem need_no (e : Int) (w : World) : Calls Tryz.prog 128 #[.bool false, .int .i64 e] w fun r w' => r = .panicked (thr e) ∧ w' = w := by
 go_enter Tryz.func128, Tryz.ntmps128
 go_wp2_with fail
 exact diedC ⟨rfl, rfl⟩
theorem allows_any (g : Sg) (v : Value) (b : Int) (w : World) : Calls Tryz.prog 129 #[.agg (sg6 g v).toArray, .int .i64 b] w fun e w' => e = .returned (.bool (hasM g.md b)) ∧ Below w.heap.size w w' := by
 have hB := alloc_below w (.cells (sg6 g v).toArray 147)
 have h0 := blkl_alloc w (sg6 g v).toArray 147
 have x1 := (h0.1 1 _ rfl).1
 obtain ⟨X, hX⟩ : ∃ X, (sg6 g v).toArray = X := ⟨_, rfl⟩
 rw [hX] at hB x1 ⊢
 unfold hasM
 go_enter Tryz.func129, Tryz.ntmps129
 go_wp2_with fail
 go_ret
 exact ⟨rfl, hB⟩
end Go.Proofs.YtidihdiffiffmaaGreatDoor
namespace Go.Proofs.YtidihdiffiffmaaGreatDoor
open Go.RowKit
set_option maxRecDepth 8000
set_option linter.unusedSimpArgs false
set_option linter.unusedVariables false
set_option maxHeartbeats 1000000 in
theorem has_any (g : Sg) (a : Option Addr) (cap : Nat) (o : Int) (w : World) : Calls Tryz.prog 147 #[.agg (sg6 g (.slice a g.ws.length cap)).toArray, .int .i64 o] w fun e w' => e = .returned (.bool (decide (inG g o))) ∧ Below w.heap.size w w' := by
 have hB := alloc_below w (.cells (sg6 g (.slice a g.ws.length cap)).toArray 147)
 have h0 := blkl_alloc w (sg6 g (.slice a g.ws.length cap)).toArray 147
 have x0 := (h0.1 0 _ rfl).1
 obtain ⟨X, hX⟩ : ∃ X, (sg6 g (.slice a g.ws.length cap)).toArray = X := ⟨_, rfl⟩
 rw [hX] at hB x0 ⊢
 unfold inG
 generalize g.ws.length = ln at *
 by_cases c0 : 0 ≤ o
 ·by_cases c1 : o < (ln : Int)
  ·rw [show decide (0 ≤ o ∧ o < (ln : Int)) = true by simp [c0, c1]]
   go_enter Tryz.func147, Tryz.ntmps147
   go_wp2_with fail
   go_ret
   exact ⟨rfl, hB⟩
  ·rw [show decide (0 ≤ o ∧ o < (ln : Int)) = false by simp [c1]]
   have c2 : (ln : Int) ≤ o := by omega
   go_enter Tryz.func147, Tryz.ntmps147
   go_wp2_with fail
   go_ret
   exact ⟨rfl, hB⟩
 ·rw [show decide (0 ≤ o ∧ o < (ln : Int)) = false by simp [c0]]
  go_enter Tryz.func147, Tryz.ntmps147
  go_wp2_with fail
  go_ret
  exact ⟨rfl, hB⟩
set_option maxHeartbeats 1000000 in
theorem cword_no (g : Sg) (a : Option Addr) (cap : Nat) (o : Int) (w : World) (hn : ¬ inG g o) : Calls Tryz.prog 132 #[.agg (sg6 g (.slice a g.ws.length cap)).toArray, .int .i64 o] w fun e w' => e = .panicked (thr 35) ∧ Below w.heap.size w w' := by
 have hund := Tryz.underlying147
 have hsz : (Tryz.prog.info? 147).map (·.size) = some 6 := by kernel_rfl
 have hB := alloc_below w (.cells (sg6 g (.slice a g.ws.length cap)).toArray 147)
 have h0 := blkl_alloc w (sg6 g (.slice a g.ws.length cap)).toArray 147
 have k1 := fun W => has_any g a cap o W
 rw [decide_eq_false hn] at k1
 have hr := h0.range
 obtain ⟨X, hX⟩ : ∃ X, sg6 g (.slice a g.ws.length cap) = X := ⟨_, rfl⟩
 have hl : X.length = 6 := by rw [← hX]; rfl
 simp only [hX] at hB hr k1 ⊢
 have hszX : (Tryz.prog.info? 147).map (·.size) = some X.length := by rw [hl]; exact hsz
 clear hX h0 hl hn
 go_enter Tryz.func132, Tryz.ntmps132
 go_wp2_with (first | (refine wpList_load_row rfl _ rfl w.heap.size rfl X hr hund rfl hszX ?_) | fail)
 refine (k1 _).mono ?_
 rintro e W1 ⟨rfl, hb⟩
 have hB1 := Below.then hB hb
 go_wp2_with fail
 refine (need_no 35 W1).mono ?_
 rintro e W2 ⟨rfl, rfl⟩
 go_wp2_with fail
 exact diedC ⟨rfl, hB1⟩
set_option maxHeartbeats 1000000 in
theorem cword_ok (g : Sg) (a : Option Addr) (cap : Nat) (o : Int) (w : World) (hi : inG g o) (hrow : RowAt 1 wcl w a g.ws) : Calls Tryz.prog 132 #[.agg (sg6 g (.slice a g.ws.length cap)).toArray, .int .i64 o] w fun e w' => e = .returned (.int .i64 (wAt g o)) ∧ Below w.heap.size w w' := by
 have hund := Tryz.underlying147
 have hsz : (Tryz.prog.info? 147).map (·.size) = some 6 := by kernel_rfl
 have hB := alloc_below w (.cells (sg6 g (.slice a g.ws.length cap)).toArray 147)
 have h0 := blkl_alloc w (sg6 g (.slice a g.ws.length cap)).toArray 147
 have k1 := fun W => has_any g a cap o W
 rw [decide_eq_true hi] at k1
 obtain ⟨j, rfl, hj⟩ : ∃ j : Nat, o = (j : Int) ∧ j < g.ws.length := ⟨o.toNat, by have := hi.1; omega, by have := hi.1; have := hi.2; omega⟩
 obtain ⟨y, rfl, hc⟩ := hrow j (g.ws[j]) (List.getElem?_eq_getElem hj)
 have hc0 : w.cell? (y.add j) = some (.int .i64 (wAt g (j : Int))) := by
  have := hc 0 (by decide)
  rw [Nat.mul_one, Nat.add_zero] at this
  rw [this]
  unfold wAt
  rw [Int.toNat_natCast, List.getD_eq_getElem?_getD, List.getElem?_eq_getElem hj]
  rfl
 have hr := h0.range
 have x0 := (h0.1 0 _ rfl).1
 obtain ⟨X, hX⟩ : ∃ X, sg6 g (.slice (some y) g.ws.length cap) = X := ⟨_, rfl⟩
 have hl : X.length = 6 := by rw [← hX]; rfl
 have h6 := h0
 simp only [hX] at hB hr k1 h6 ⊢
 have hszX : (Tryz.prog.info? 147).map (·.size) = some X.length := by rw [hl]; exact hsz
 have i1 : (j : Int) < (g.ws.length : Int) := by omega
 have i2 : ¬ (j : Int) < 0 := by omega
 have i3 : ¬ (g.ws.length : Int) ≤ (j : Int) := by omega
 have hX0 : X[0]? = some (.slice (some y) g.ws.length cap) := by rw [← hX]; rfl
 clear hX h0 hl hi hrow hc x0
 generalize wAt g (j : Int) = wd at *
 generalize g.ws.length = ln at *
 go_enter Tryz.func132, Tryz.ntmps132
 go_wp2_with (first | (refine wpList_load_row rfl _ rfl w.heap.size rfl X hr hund rfl hszX ?_) | fail)
 refine (k1 _).mono ?_
 rintro e W1 ⟨rfl, hb⟩
 have hB1 := Below.then hB hb
 have h61 := stab_blk _ _ _ _ h6 hb
 have x0 := (h61.1 0 _ hX0).1
 have hc1 : W1.cell? (y.add j) = some (.int .i64 wd) := (hB1.cell (World.block_lt_of_cell? _ _ hc0)).trans hc0
 clear hc0 h6 h61 hr hb hX0
 go_wp2_with fail
 refine (need_ok 35 W1).mono ?_
 rintro e W2 ⟨rfl, rfl⟩
 go_wp2_with fail
 go_ret
 exact ⟨rfl, hB1⟩
abbrev memI (bm : Nat) : Value := .iface 108 (.map (some bm))
theorem finds_seg (p : Nat) (w : World) : Sem.run Tryz.prog (method 358 108 (.map (some p)) "Segment") w = .ok (203, .map (some p)) w := by rfl
theorem enters_seg (args : Array Value) (w : World) : Sem.run Tryz.prog (callFunc 203 args) w = .ok (.enter 203 args) w := by rfl
set_option maxHeartbeats 2000000 in
theorem mseg_none (bm : Nat) (a : Option Addr) (cap : Nat) (m : List PG) (k : Int) (w : World) (hM : MAt bm a cap m w) (hno : (kn (m.map (·.g)) k).is = false) :
    Calls Tryz.prog 203 #[.map (some bm), .int .i64 k] w fun e w' => e = .returned (.tuple #[.agg (sg6 zeroG nilS).toArray, .bool false]) ∧ Below w.heap.size w w' := by
 have hundC := Tryz.underlying147
 have hszC : (Tryz.prog.info? 147).map (·.size) = some 6 := by kernel_rfl
 have hz : ∀ w, (zeroValue 147).run Tryz.prog w = .ok (.agg (sg6 zeroG nilS).toArray) w := fun _ => by first | rfl | kernel_rfl
 have h0 := blkl_alloc w (sg6 zeroG nilS).toArray 147
 have hB0 := alloc_below w (.cells (sg6 zeroG nilS).toArray 147)
 have hlk := lookI_ok Tryz.underlying108 hz (hM.below hB0).map k
 simp only [hno, Bool.false_eq_true, if_false] at hlk
 have hone : ∀ u ∈ sg6 zeroG nilS, u.oneCell' = true := fun u hu => by
  simp [sg6] at hu
  rcases hu with rfl | rfl | rfl | rfl | rfl | rfl <;> rfl
 obtain ⟨X, hX⟩ : ∃ X, sg6 zeroG nilS = X := ⟨_, rfl⟩
 have hl : X.length = 6 := by rw [← hX]; rfl
 have hszX : (Tryz.prog.info? 147).map (·.size) = some X.length := by rw [hl]; exact hszC
 rw [hX] at hone ⊢
 clear hM hz hno
 go_enter Tryz.func203, Tryz.ntmps203
 go_upto_region 1 with fail
 replace hlk : (Instr.lookup 108 (.map (some bm)) (.int .i64 k) true).run Tryz.prog (w.alloc (.cells #[.slice none 0 0, .int .i64 0, .int .i64 0, .int .i64 0, .int .i64 0, .int .i64 0] 147)) = Result.ok _ (w.alloc (.cells #[.slice none 0 0, .int .i64 0, .int .i64 0, .int .i64 0, .int .i64 0, .int .i64 0] 147)) := hlk
 replace h0 : BlkL w.heap.size (sg6 zeroG nilS) (w.alloc (.cells #[.slice none 0 0, .int .i64 0, .int .i64 0, .int .i64 0, .int .i64 0, .int .i64 0] 147)) := h0
 replace hB0 : Below w.heap.size w (w.alloc (.cells #[.slice none 0 0, .int .i64 0, .int .i64 0, .int .i64 0, .int .i64 0, .int .i64 0] 147)) := hB0
 generalize w.alloc (.cells #[.slice none 0 0, .int .i64 0, .int .i64 0, .int .i64 0, .int .i64 0, .int .i64 0] 147) = W0 at *
 rw [hX] at hlk
 clear hX
 obtain ⟨W2, hW2, hth2, hb2, hB2⟩ := put_new W0 #[.slice none 0 0, .int .i64 0, .int .i64 0, .int .i64 0, .int .i64 0, .int .i64 0] 147 X (by rw [hl]; rfl) (by rw [hl]; decide)
 have h02 := stab_blk _ _ _ _ h0 hB2
 have hB02 := Below.then hB0 hB2
 have hr := hb2.range
 obtain ⟨W3, hW3, hth3, hk3, hb3⟩ := put_any h02 (ds := X) (by rw [hl]; rfl) (by rw [hl]; decide)
 have hB3 := hb3 _ _ (Nat.le_refl _) hB02
 have hr3 := hk3.range
 clear h0 hB0 hB2 hb2 h02 hB02 hk3 hb3
 go_wp2_with (first | (refine wpList_store_row rfl _ _ rfl W0.heap.size rfl X rfl hth2 hszX hone hW2 ?_) | (refine wpList_store_row rfl _ _ rfl w.heap.size rfl X rfl hth3 hszX hone hW3 ?_) | (refine wpList_load_row rfl _ rfl W0.heap.size rfl X hr hundC rfl hszX ?_) | fail)
 refine bodyPost_ret (v := .tuple #[.agg X.toArray, .bool false]) (results_row2 rfl _ _ w.heap.size rfl (.bool false) rfl X hr3 hundC rfl hszX) rfl ?_
 exact ⟨rfl, hB3⟩
set_option maxHeartbeats 2000000 in
theorem mseg_some (bm : Nat) (a : Option Addr) (cap : Nat) (m : List PG) (k : Int) (w : World) (hM : MAt bm a cap m w) (hyes : (kn (m.map (·.g)) k).is = true) :
    Calls Tryz.prog 203 #[.map (some bm), .int .i64 k] w fun e w' => e = .returned (.tuple #[.agg (sg6 (kn (m.map (·.g)) k) (knP m k).v).toArray, .bool true]) ∧ Below w.heap.size w w' := by
 have hundC := Tryz.underlying147
 have hszC : (Tryz.prog.info? 147).map (·.size) = some 6 := by kernel_rfl
 have hz : ∀ w, (zeroValue 147).run Tryz.prog w = .ok (.agg (sg6 zeroG nilS).toArray) w := fun _ => by first | rfl | kernel_rfl
 have h0 := blkl_alloc w (sg6 zeroG nilS).toArray 147
 have hB0 := alloc_below w (.cells (sg6 zeroG nilS).toArray 147)
 have hlk := lookI_ok Tryz.underlying108 hz (hM.below hB0).map k
 simp only [hyes, if_true] at hlk
 unfold segV at hlk
 rw [knP_g] at hlk
 have hone : ∀ u ∈ sg6 (kn (m.map (·.g)) k) (knP m k).v, u.oneCell' = true := fun u hu => by
  simp [sg6, PG.v] at hu
  rcases hu with rfl | rfl | rfl | rfl | rfl | rfl <;> rfl
 obtain ⟨X, hX⟩ : ∃ X, sg6 (kn (m.map (·.g)) k) (knP m k).v = X := ⟨_, rfl⟩
 have hl : X.length = 6 := by rw [← hX]; rfl
 have hszX : (Tryz.prog.info? 147).map (·.size) = some X.length := by rw [hl]; exact hszC
 rw [hX] at hone ⊢
 clear hM hz hyes
 go_enter Tryz.func203, Tryz.ntmps203
 go_upto_region 1 with fail
 replace hlk : (Instr.lookup 108 (.map (some bm)) (.int .i64 k) true).run Tryz.prog (w.alloc (.cells #[.slice none 0 0, .int .i64 0, .int .i64 0, .int .i64 0, .int .i64 0, .int .i64 0] 147)) = Result.ok _ (w.alloc (.cells #[.slice none 0 0, .int .i64 0, .int .i64 0, .int .i64 0, .int .i64 0, .int .i64 0] 147)) := hlk
 replace h0 : BlkL w.heap.size (sg6 zeroG nilS) (w.alloc (.cells #[.slice none 0 0, .int .i64 0, .int .i64 0, .int .i64 0, .int .i64 0, .int .i64 0] 147)) := h0
 replace hB0 : Below w.heap.size w (w.alloc (.cells #[.slice none 0 0, .int .i64 0, .int .i64 0, .int .i64 0, .int .i64 0, .int .i64 0] 147)) := hB0
 generalize w.alloc (.cells #[.slice none 0 0, .int .i64 0, .int .i64 0, .int .i64 0, .int .i64 0, .int .i64 0] 147) = W0 at *
 rw [hX] at hlk
 clear hX
 obtain ⟨W2, hW2, hth2, hb2, hB2⟩ := put_new W0 #[.slice none 0 0, .int .i64 0, .int .i64 0, .int .i64 0, .int .i64 0, .int .i64 0] 147 X (by rw [hl]; rfl) (by rw [hl]; decide)
 have h02 := stab_blk _ _ _ _ h0 hB2
 have hB02 := Below.then hB0 hB2
 have hr := hb2.range
 obtain ⟨W3, hW3, hth3, hk3, hb3⟩ := put_any h02 (ds := X) (by rw [hl]; rfl) (by rw [hl]; decide)
 have hB3 := hb3 _ _ (Nat.le_refl _) hB02
 have hr3 := hk3.range
 clear h0 hB0 hB2 hb2 h02 hB02 hk3 hb3
 go_wp2_with (first | (refine wpList_store_row rfl _ _ rfl W0.heap.size rfl X rfl hth2 hszX hone hW2 ?_) | (refine wpList_store_row rfl _ _ rfl w.heap.size rfl X rfl hth3 hszX hone hW3 ?_) | (refine wpList_load_row rfl _ rfl W0.heap.size rfl X hr hundC rfl hszX ?_) | fail)
 refine bodyPost_ret (v := .tuple #[.agg X.toArray, .bool true]) (results_row2 rfl _ _ w.heap.size rfl (.bool true) rfl X hr3 hundC rfl hszX) rfl ?_
 exact ⟨rfl, hB3⟩
theorem sg6_one (g : Sg) (a : Option Addr) (n cap : Nat) : ∀ u ∈ sg6 g (.slice a n cap), u.oneCell' = true := fun u hu => by
 simp [sg6] at hu
 rcases hu with rfl | rfl | rfl | rfl | rfl | rfl <;> rfl
theorem new_sg (W : World) (g : Sg) (v : Value) : ∃ W', (W.alloc (.cells #[.slice none 0 0, .int .i64 0, .int .i64 0, .int .i64 0, .int .i64 0, .int .i64 0] 147)).setCells W.heap.size 0 (sg6 g v) = W' ∧ (W.alloc (.cells #[.slice none 0 0, .int .i64 0, .int .i64 0, .int .i64 0, .int .i64 0, .int .i64 0] 147)).there W.heap.size 0 (sg6 g v).length ∧ BlkL W.heap.size (sg6 g v) W' ∧ Below W.heap.size W W' :=
 put_new W (sg6 zeroG nilS).toArray 147 (sg6 g v) rfl (by show 0 < 6; decide)
set_option maxHeartbeats 2000000 in
theorem cseg_none (bm bx : Nat) (a : Option Addr) (cap : Nat) (m : List PG) (hm : MG m) (c : Cp) (v : Value) (r : List Value) (k : Int) (w : World) (hM : MAt bm a cap m w) (hX : XAt bx c v (memI bm :: r) w) (hno : (kn (m.map (·.g)) k).is = false) :
    Calls Tryz.prog 127 #[.pointer (some ⟨bx, 0, none⟩), .int .i64 k] w fun e w' => e = .panicked (thr 35) ∧ Below w.heap.size w w' := by
 have hszC : (Tryz.prog.info? 147).map (·.size) = some 6 := by kernel_rfl
 have hB0 := alloc_below w (.cells (sg6 zeroG nilS).toArray 147)
 have hM1 := hM.below hB0
 have hX1 := hX.keep hB0
 have x0 := (hX1.tails (i := 0) rfl).1
 have hf := finds_seg bm
 have he := enters_seg
 clear hM hX hX1 hm
 go_enter Tryz.func127, Tryz.ntmps127
 go_upto_region 1 with fail
 replace x0 : (w.alloc (.cells #[.slice none 0 0, .int .i64 0, .int .i64 0, .int .i64 0, .int .i64 0, .int .i64 0] 147)).cell? ⟨bx, 18, none⟩ = some (memI bm) := x0
 replace hM1 : MAt bm a cap m (w.alloc (.cells #[.slice none 0 0, .int .i64 0, .int .i64 0, .int .i64 0, .int .i64 0, .int .i64 0] 147)) := hM1
 replace hB0 : Below w.heap.size w (w.alloc (.cells #[.slice none 0 0, .int .i64 0, .int .i64 0, .int .i64 0, .int .i64 0, .int .i64 0] 147)) := hB0
 generalize w.alloc (.cells #[.slice none 0 0, .int .i64 0, .int .i64 0, .int .i64 0, .int .i64 0, .int .i64 0] 147) = W0 at *
 go_wp2_with fail
 refine (mseg_none bm a cap m k W0 hM1 hno).mono ?_
 rintro e W1 ⟨rfl, hb⟩
 obtain ⟨W2, hW2, hth2, hb2, hB2⟩ := new_sg W1 zeroG nilS
 have hB := Below.then (Below.then hB0 hb) hB2
 clear hM1 hno x0 hf he hb hB0 hB2 hb2
 go_wp2_with (first | (refine wpList_store_row rfl _ _ rfl W1.heap.size rfl (sg6 zeroG nilS) rfl hth2 hszC (sg6_one _ _ _ _) hW2 ?_) | fail)
 refine (need_no 35 W2).mono ?_
 rintro e W3 ⟨rfl, rfl⟩
 go_wp2_with fail
 exact diedC ⟨rfl, hB⟩
set_option maxHeartbeats 2000000 in
theorem cseg_some (bm bx : Nat) (a : Option Addr) (cap : Nat) (m : List PG) (hm : MG m) (c : Cp) (v : Value) (r : List Value) (k : Int) (w : World) (hM : MAt bm a cap m w) (hX : XAt bx c v (memI bm :: r) w) (hyes : (kn (m.map (·.g)) k).is = true) :
    Calls Tryz.prog 127 #[.pointer (some ⟨bx, 0, none⟩), .int .i64 k] w fun e w' => ∃ u, e = .returned (.agg (sg6 (kn (m.map (·.g)) k) u).toArray) ∧ OwnR 2 1 wcl w' cap u (kn (m.map (·.g)) k).ws ∧ Below w.heap.size w w' := by
 have hundC := Tryz.underlying147
 have hszC : (Tryz.prog.info? 147).map (·.size) = some 6 := by kernel_rfl
 have hB0 := alloc_below w (.cells (sg6 zeroG nilS).toArray 147)
 have h0 := blkl_alloc w (sg6 zeroG nilS).toArray 147
 have hM1 := hM.below hB0
 have hX1 := hX.keep hB0
 have x0 := (hX1.tails (i := 0) rfl).1
 have hf := finds_seg bm
 have he := enters_seg
 have hs0 : w.heap.size ≤ (w.alloc (.cells #[.slice none 0 0, .int .i64 0, .int .i64 0, .int .i64 0, .int .i64 0, .int .i64 0] 147)).heap.size := hB0.size
 have k1 := fun (W : World) (h : MAt bm a cap m W) => mseg_some bm a cap m k W h hyes
 have hmem := (knP_mem hyes).1
 have hgg := knP_g m k
 have hown : ∀ W, MAt bm a cap m W → OwnR 2 1 wcl W cap (knP m k).v (kn (m.map (·.g)) k).ws := fun W h => by rw [← hgg]; exact h.own _ hmem (by rw [hgg]; exact hyes)
 have hlow : ∀ g, (knP m k).v.ownBlock = some g → g < w.heap.size := fun g hg => hM.low _ hmem (by rw [hgg]; exact hyes) g hg
 obtain ⟨u, hue⟩ : ∃ u, (knP m k).v = u := ⟨_, rfl⟩
 rw [hue] at hown hlow
 simp only [hue] at k1
 clear hM hX hX1 hyes hm hmem hgg hue
 generalize kn (m.map (·.g)) k = g at *
 go_enter Tryz.func127, Tryz.ntmps127
 go_upto_region 1 with fail
 replace x0 : (w.alloc (.cells #[.slice none 0 0, .int .i64 0, .int .i64 0, .int .i64 0, .int .i64 0, .int .i64 0] 147)).cell? ⟨bx, 18, none⟩ = some (memI bm) := x0
 replace hM1 : MAt bm a cap m (w.alloc (.cells #[.slice none 0 0, .int .i64 0, .int .i64 0, .int .i64 0, .int .i64 0, .int .i64 0] 147)) := hM1
 replace hB0 : Below w.heap.size w (w.alloc (.cells #[.slice none 0 0, .int .i64 0, .int .i64 0, .int .i64 0, .int .i64 0, .int .i64 0] 147)) := hB0
 replace h0 : BlkL w.heap.size (sg6 zeroG nilS) (w.alloc (.cells #[.slice none 0 0, .int .i64 0, .int .i64 0, .int .i64 0, .int .i64 0, .int .i64 0] 147)) := h0
 generalize w.alloc (.cells #[.slice none 0 0, .int .i64 0, .int .i64 0, .int .i64 0, .int .i64 0, .int .i64 0] 147) = W0 at *
 go_wp2_with fail
 refine (k1 W0 hM1).mono ?_
 rintro e W1 ⟨rfl, hb⟩
 have ho := (hown W0 hM1).below hb
 obtain ⟨ua, uc, hu, -, -, -⟩ := ho.slice wd_okC.len
 obtain ⟨W2, hW2, hth2, hb2, hB2⟩ := new_sg W1 g u
 have h1 := stab_blk _ _ _ _ (stab_blk _ _ _ _ h0 hb) hB2
 have hr2 := hb2.range
 obtain ⟨W3, hW3, hth3, hb3, hk3⟩ := put_any h1 (ds := sg6 g u) rfl (by show 0 < 6; decide)
 have hB3 := hk3 _ _ (Nat.le_refl _) (Below.then (Below.then hB0 hb) hB2)
 have ho3 : OwnR 2 1 wcl W3 cap u g.ws := by
  rw [← hW3]
  have := h0.2
  exact (ho.below hB2).setAll (g := w.heap.size) (fun q => by have := hlow _ q; omega) _
 have hr3 := hb3.range
 have hone : ∀ z ∈ sg6 g u, z.oneCell' = true := by rw [hu]; exact sg6_one _ _ _ _
 obtain ⟨X, hX⟩ : ∃ X, sg6 g u = X := ⟨_, rfl⟩
 have hl : X.length = 6 := by rw [← hX]; rfl
 have hszX : (Tryz.prog.info? 147).map (·.size) = some X.length := by rw [hl]; exact hszC
 rw [hX] at hW2 hth2 hW3 hth3 hr2 hr3 hone
 have hXv : Aside (.agg (sg6 g u).toArray = Value.agg X.toArray) := by rw [hX]; exact rfl
 replace hX : Aside (sg6 g u = X) := hX
 clear hM1 k1 x0 hf he hb hB0 hB2 hb2 h0 h1 hb3 hk3 hl ho hu hown hlow
 go_wp2_with (first | (refine wpList_store_row rfl _ _ rfl W1.heap.size rfl X hXv.out hth2 hszX hone hW2 ?_) | fail)
 refine (need_ok 35 W2).mono ?_
 rintro e W4 ⟨rfl, rfl⟩
 go_wp2_with (first | (refine wpList_load_row rfl _ rfl W1.heap.size rfl X hr2 hundC rfl hszX ?_) | (refine wpList_store_row rfl _ _ rfl w.heap.size rfl X rfl hth3 hszX hone hW3 ?_) | fail)
 refine bodyPost_ret (v := .agg X.toArray) (results_row1 rfl _ _ w.heap.size rfl X hr3 hundC rfl hszX) rfl ?_
 exact ⟨u, by rw [hX.out], ho3, hB3⟩
end Go.Proofs.YtidihdiffiffmaaGreatDoor
namespace Go.Proofs.YtidihdiffiffmaaGreatDoor
open Go.RowKit
set_option maxRecDepth 8000
set_option linter.unusedSimpArgs false
set_option linter.unusedVariables false
section
variable {ops : Array Oper} {o : Oper} {a : Act} {w : World} {Q : Exit → Act → World → Prop}
theorem step_allocC {T : TypeId} {K : Act → World → Prop} {E : Prop} {z : Array Value} (hg : o.guard = none) (ho : o.op = .alloc T) (hz : ∀ w : World, (Instr.alloc T true (.tuple #[])).run Tryz.prog w = .ok (.pointer (some ⟨w.heap.size, 0, none⟩)) (w.alloc (.cells z T))) (hK : K (a.put o.dst (.pointer (some ⟨w.heap.size, 0, none⟩))) (w.alloc (.cells z T))) :
    if Region.wanted o (yielded ops a.tmps) = true then Oper.wp Tryz.prog o a w K Q else E := by
 have hw : Region.wanted o (yielded ops a.tmps) = true := by simp [Region.wanted, hg]
 rw [if_pos hw]
 unfold Oper.wp
 simp [execOp, ho, hz, Result.andThen]
 exact hK
end
def memP (c : Cp) (i : Ins) : Ptr := ⟨(pAt c i.p).s, mOff c i, mRing c i⟩
structure SM (bx bi bp : Nat) (c : Cp) (v : Value) (r : List Value) (i : Ins) (p : Ptr) (W : World) : Prop where
 x : XAt bx c v r W
 i : BlkL bi (ins3 i) W
 p : BlkL bp (ptr3 p) W
set_option maxRecDepth 8000 in
set_option maxHeartbeats 4000000 in
theorem cmem_any (bx : Nat) (c : Cp) (v : Value) (r : List Value) (hc : c.Ok) (i : Ins) (hi : insE i = 0) (w : World) (hX : XAt bx c v r w) :
    Calls Tryz.prog 116 #[.pointer (some ⟨bx, 0, none⟩), i.v] w fun e w' => e = .returned (.agg (ptr3 (memP c i)).toArray) ∧ Below w.heap.size w w' := by
 have hundP := Tryz.underlying41
 have hszP : (Tryz.prog.info? 41).map (·.size) = some 3 := by kernel_rfl
 obtain ⟨⟨o0, o1⟩, p0, p1, n0, n1⟩ := insE_zero.1 hi
 obtain ⟨k, hk, hk4⟩ : ∃ k : Nat, i.p = (k : Int) ∧ k < 4 := ⟨i.p.toNat, by omega, by omega⟩
 have hpo := pAt_ok hc i.p
 have hp : pAt c i.p = c.ps.getD k ⟨0, 0, 0⟩ := by unfold pAt; rw [hk, Int.toNat_natCast]
 obtain ⟨p, hpp⟩ : ∃ p, c.ps.getD k ⟨0, 0, 0⟩ = p := ⟨_, rfl⟩
 rw [hpp] at hp
 rw [hp] at hpo
 have how : IntKind.i64.wrap (p.f + i.n) = mOff c i := by rw [IntKind.wrap_i64]; unfold mOff; rw [hp]; omega
 have hgm : (if c.ring < p.r then p.r else c.ring) = mRing c i := by unfold mRing; rw [hp]; rfl
 have hmp : memP c i = ⟨p.s, mOff c i, mRing c i⟩ := by unfold memP; rw [hp]
 rw [hmp]
 have hv : i.v = .agg #[.int .i64 i.o, .int .i64 (k : Int), .int .i64 i.n] := by rw [← hk]
 rw [hv]
 generalize mOff c i = o at *
 generalize mRing c i = R at *
 have hi0 := blkl_alloc w (ins3 ⟨i.o, (k : Int), i.n⟩).toArray 80
 have hB0 := alloc_below w (.cells (ins3 ⟨i.o, (k : Int), i.n⟩).toArray 80)
 have hsw : (w.alloc (.cells (ins3 ⟨i.o, (k : Int), i.n⟩).toArray 80)).heap.size = w.heap.size + 1 := by simp
 have hr0 := blkl_alloc (w.alloc (.cells (ins3 ⟨i.o, (k : Int), i.n⟩).toArray 80)) (ptr3 ⟨0, 0, 0⟩).toArray 41
 have hb := alloc_below (w.alloc (.cells (ins3 ⟨i.o, (k : Int), i.n⟩).toArray 80)) (.cells (ptr3 ⟨0, 0, 0⟩).toArray 41)
 rw [hsw] at hr0
 have hX1 := (hX.keep hB0).keep hb
 have hi1 := stab_blk _ _ _ _ hi0 hb
 have hB1 := Below.then hB0 hb
 have hbx : bx < w.heap.size := hX.lt
 replace hi1 : BlkL w.heap.size (ins3 ⟨i.o, (k : Int), i.n⟩) ((w.alloc (.cells #[.int .i64 i.o, .int .i64 (k : Int), .int .i64 i.n] 80)).alloc (.cells #[.int .i64 0, .int .i64 0, .int .i64 0] 41)) := hi1
 replace hr0 : BlkL (w.heap.size + 1) (ptr3 ⟨0, 0, 0⟩) ((w.alloc (.cells #[.int .i64 i.o, .int .i64 (k : Int), .int .i64 i.n] 80)).alloc (.cells #[.int .i64 0, .int .i64 0, .int .i64 0] 41)) := hr0
 replace hX1 : XAt bx c v r ((w.alloc (.cells #[.int .i64 i.o, .int .i64 (k : Int), .int .i64 i.n] 80)).alloc (.cells #[.int .i64 0, .int .i64 0, .int .i64 0] 41)) := hX1
 replace hB1 : Below w.heap.size w ((w.alloc (.cells #[.int .i64 i.o, .int .i64 (k : Int), .int .i64 i.n] 80)).alloc (.cells #[.int .i64 0, .int .i64 0, .int .i64 0] 41)) := hB1
 clear hi0 hB0 hsw hb hX hmp hv hi hpo o0 o1 p0 p1 n0 n1 hc hk hp
 have j1 : (k : Int) < 4 := by omega
 have j2 : ¬ (k : Int) < 0 := by omega
 go_enter Tryz.func116, Tryz.ntmps116
 go_upto_region 1 with fail
 generalize (w.alloc (.cells #[.int .i64 i.o, .int .i64 (k : Int), .int .i64 i.n] 80)).alloc (.cells #[.int .i64 0, .int .i64 0, .int .i64 0] 41) = Z at *
 have q1 := (hi1.1 1 _ rfl).1
 have hpt := hX1.ptr hk4
 rw [hpp] at hpt
 have hb1 := hi1.2
 have hb2 := hX1.lt
 have hS0 := (Below.refl Z.heap.size Z).drew
 refine wp_region_held_drew (S := (fun W => Below Z.heap.size Z W)) (by kernel_rfl) (by exact hS0) ?_
 intro hHeld
 generalize Z.drew = w0 at *
 obtain ⟨W2, hW2, hth2, hp2, hb22⟩ := put_new w0 (ptr3 ⟨0, 0, 0⟩).toArray 41 (ptr3 p) rfl (by show 0 < 3; decide)
 have hS1 := Below.then hS0 (alloc_below w0 (.cells (ptr3 ⟨0, 0, 0⟩).toArray 41))
 have hS2 := Below.then hS0 hb22
 refine tkA 0 ?_
 refine tkA 1 ?_
 refine tkB 2 (y := yields_cellI (by rfl) _ rfl ⟨w.heap.size, 1, none⟩ rfl (.int .i64 (k : Int)) (fun _ q => (q.cell (p := ⟨w.heap.size, 1, none⟩) hb1).trans q1) intI_load) (h := ?_)
 refine tkA 3 ?_
 refine tkA 4 ?_
 refine tkA 5 ?_
 refine tkA 6 ?_
 refine tkB 7 (y := yieldsIf_load_mid (by rfl) 41 _ rfl bx (4 + k * 3) rfl (ptr3 p) _ (fun _ q j u hu => (q.cell (p := ⟨bx, 4 + k * 3 + j, none⟩) hb2).trans (hpt j u hu)) hundP rfl hszP) (h := ?_)
 refine tkR (rs := [8]) ?_
 refine tkC (fun K hK => ?_) AllReadyH.nil
 refine step_allocC (z := #[.int .i64 0, .int .i64 0, .int .i64 0]) rfl rfl (fun _ => rfl) ?_
 (try simp only [Act.put, zsA, zsB, zsC])
 refine hK.out _ _ (hS1) ?_
 clear hHeld hK
 intro hHeld
 (try simp only [Act.put, zsA, zsB, zsC])
 refine tkR (rs := [9]) ?_
 refine tkC (fun K hK => ?_) AllReadyH.nil
 refine step_store_rowC rfl _ _ rfl w0.heap.size rfl (ptr3 p) rfl hth2 hszP (ptr3J_one _) hW2 ?_
 (try simp only [Act.put, zsA, zsB, zsC])
 refine hK.out _ _ (hS2) ?_
 clear hHeld hK
 intro hHeld
 (try simp only [Act.put, zsA, zsB, zsC])
 refine wpAnyH_done (by kernel_rfl) ?_ _
 have hX2 := hX1.keep hS2
 have hi2 := stab_blk _ _ _ _ hi1 hS2
 have hr2 := stab_blk _ _ _ _ hr0 hS2
 have hB2 := Below.then hB1 hS2
 have hz0 := hS0.size
 have hr02 := hr0.2
 have hdr := (Below.refl W2.heap.size W2).drew
 have hX3 := hX2.keep hdr
 have hi3 := stab_blk _ _ _ _ hi2 hdr
 have hp3 := stab_blk _ _ _ _ hp2 hdr
 have hr3 := stab_blk _ _ _ _ hr2 hdr
 have hB3 := Below.then hB2 hdr
 obtain ⟨W7, hW7, hth7, hb7, hk7⟩ := put_any hr3 (ds := ptr3 ⟨p.s, o, R⟩) rfl (by show 0 < 3; decide)
 have hB7 := hk7 _ _ (Nat.le_succ _) hB3
 have hfar : ∀ q, q ≠ w.heap.size + 1 → W7.heap[q]? = W2.drew.heap[q]? := fun q hq => by rw [← hW7]; exact heap_setCells_other hq _ _ _
 have hM7 : SM bx w.heap.size w0.heap.size c v r ⟨i.o, (k : Int), i.n⟩ p W7 := by
  have hs7 : W2.drew.heap.size ≤ W7.heap.size := (hk7 0 W2.drew (Nat.zero_le _) (Below.refl _ _)).size
  exact ⟨hX3.same (hfar _ (by omega)) hs7, ⟨hi3.1.same (hfar _ (by omega)), Nat.lt_of_lt_of_le hi3.2 hs7⟩, ⟨hp3.1.same (hfar _ (by omega)), Nat.lt_of_lt_of_le hp3.2 hs7⟩⟩
 have hM0 : SM bx w.heap.size w0.heap.size c v r ⟨i.o, (k : Int), i.n⟩ p W2.drew := ⟨hX3, hi3, hp3⟩
 clear hX3 hi3 hp3 hr3 hdr hX2 hi2 hp2 hr2 hB2 hB3 hS2 hS1 hb22 hS0 hpt q1 hX1 hi1 hr0 hfar hk7
 go_upto_region 2 with fail
 refine wp_region_held_drew (S := (SM bx w.heap.size w0.heap.size c v r ⟨i.o, (k : Int), i.n⟩ p)) (by kernel_rfl) (by exact hM0) ?_
 intro hHeld
 generalize W2.drew = w3 at *
 refine tkA 0 ?_
 refine tkB 1 (y := yields_cellI (by rfl) _ rfl ⟨w0.heap.size, 0, none⟩ rfl (.int .i64 p.s) (fun _ q => (q.p.1 0 _ rfl).1) intI_load) (h := ?_)
 refine tkA 2 ?_
 refine tkB 3 (y := yields_cellI (by rfl) _ rfl ⟨w0.heap.size, 1, none⟩ rfl (.int .i64 p.f) (fun _ q => (q.p.1 1 _ rfl).1) intI_load) (h := ?_)
 refine tkA 4 ?_
 refine tkB 5 (y := yields_cellI (by rfl) _ rfl ⟨w.heap.size, 2, none⟩ rfl (.int .i64 i.n) (fun _ q => (q.i.1 2 _ rfl).1) intI_load) (h := ?_)
 refine tkA 6 ?_
 refine tkA 7 ?_
 refine tkA 8 ?_
 refine tkA 9 ?_
 refine tkA 10 ?_
 refine tkB 11 (y := yields_cellI (by rfl) _ rfl ⟨bx, 2, none⟩ rfl (.int .i64 c.ring) (fun _ q => q.x.ring) intI_load) (h := ?_)
 refine tkA 12 ?_
 refine tkB 13 (y := yields_cellI (by rfl) _ rfl ⟨w0.heap.size, 2, none⟩ rfl (.int .i64 p.r) (fun _ q => (q.p.1 2 _ rfl).1) intI_load) (h := ?_)
 refine tkA 14 ?_
 refine tkA 15 ?_
 refine tkR (rs := [16]) ?_
 refine tkC (fun K hK => ?_) AllReadyH.nil
 refine step_store_rowC rfl _ _ rfl (w.heap.size + 1) rfl (ptr3 ⟨p.s, o, R⟩) (by simp [Act.eval, how, hgm, max_ofI hgm]) hth7 hszP (ptr3J_one _) hW7 ?_
 (try simp only [Act.put, zsA, zsB, zsC])
 refine hK.out _ _ (hM7) ?_
 clear hHeld hK
 intro hHeld
 (try simp only [Act.put, zsA, zsB, zsC])
 refine wpAnyH_done (by kernel_rfl) ?_ _
 go_wp2_with fail
 refine bodyPost_ret (v := .agg (ptr3 ⟨p.s, o, R⟩).toArray) (results_row1 rfl _ _ (w.heap.size + 1) rfl (ptr3 ⟨p.s, o, R⟩) hb7.range hundP rfl hszP) rfl ?_
 exact ⟨rfl, hB7⟩
end Go.Proofs.YtidihdiffiffmaaGreatDoor
namespace Go.Proofs.YtidihdiffiffmaaGreatDoor
open Go.RowKit
set_option maxRecDepth 8000
set_option linter.unusedSimpArgs false
set_option linter.unusedVariables false
def rdG (g : Sg) (q : Ptr) : Int := if g.is = false then 35 else if hasM g.md 1 = false ∨ mayR g.rg q.r = false then 31 else if ¬ inG g q.f then 35 else 0
theorem fld_rg {b : Nat} {g : Sg} {u : Value} {W : World} (h : BlkL b (sg6 g u) W) : W.rangeAt b 2 (rg4 g.rg) := fun j z hz => by
 match j, hz with
 | 0, hz => exact (h.1 2 z hz).1
 | 1, hz => exact (h.1 3 z hz).1
 | 2, hz => exact (h.1 4 z hz).1
 | 3, hz => exact (h.1 5 z hz).1
 | j + 4, hz => simp at hz
structure SR (bq bg : Nat) (q : Ptr) (G : List Value) (W : World) : Prop where
 q : BlkL bq (ptr3 q) W
 g : BlkL bg G W
theorem SR.keep {bq bg : Nat} {q : Ptr} {G : List Value} {W W' : World} (h : SR bq bg q G W) (hb : Below W.heap.size W W') : SR bq bg q G W' := ⟨stab_blk _ _ _ _ h.q hb, stab_blk _ _ _ _ h.g hb⟩
theorem rg4_one (x : Rg) : ∀ u ∈ rg4 x, u.oneCell' = true := fun u hu => by
 simp [rg4] at hu
 rcases hu with rfl | rfl | rfl | rfl <;> rfl
theorem results_cell_row {fn : Func} {p q : Tmp} {T : TypeId} {d : TypeDesc} (h : fn.results = #[.tmp p, .cell q T]) (tmps : Array Value) (w : World) (v : Value) (hv : tmps.getD p undef = v) (g : Nat) (hq : tmps.getD q undef = .pointer (some ⟨g, 0, none⟩)) (cs : List Value) (hr : w.rangeAt g 0 cs)
    (hu : Tryz.prog.underlying T = some d) (hd : d.isRow = true) (hi : (Tryz.prog.info? T).map (·.size) = some cs.length) :
    (results fn tmps).run Tryz.prog w = .ok (.tuple #[v, .agg cs.toArray]) w := by
 have hp' : tmps[q]?.getD undef = .pointer (some ⟨g, 0, none⟩) := by simpa using hq
 have hv' : tmps[p]?.getD undef = v := by simpa using hv
 have e := run_loadVar_mid (P := Tryz.prog) w g 0 T cs d hr hu hd hi
 simp [results, h, hp', hv', asAddr, e]
set_option maxRecDepth 8000 in
set_option maxHeartbeats 4000000 in
theorem cread_any (bm bx : Nat) (a : Option Addr) (cap : Nat) (m : List PG) (hm : MG m) (c : Cp) (v : Value) (r : List Value) (q : Ptr) (g : Sg) (hg : kn (m.map (·.g)) q.s = g) (E : Int) (hE : rdG g q = E) (w : World) (hM : MAt bm a cap m w) (hX : XAt bx c v (memI bm :: r) w) :
    Calls Tryz.prog 115 #[.pointer (some ⟨bx, 0, none⟩), .agg (ptr3 q).toArray] w fun e w' => e = (if E = 0 then .returned (.tuple #[.int .i64 (wAt g q.f), .agg (rg4 g.rg).toArray]) else .panicked (thr E)) ∧ Below w.heap.size w w' := by
 have hundC := Tryz.underlying147
 have hszC : (Tryz.prog.info? 147).map (·.size) = some 6 := by kernel_rfl
 have hundR := Tryz.underlying33
 have hszR : (Tryz.prog.info? 33).map (·.size) = some 4 := by kernel_rfl
 have hq0 := blkl_alloc w (ptr3 q).toArray 41
 have hB0 := alloc_below w (.cells (ptr3 q).toArray 41)
 have hsw : (w.alloc (.cells (ptr3 q).toArray 41)).heap.size = w.heap.size + 1 := by simp
 have hr0 := blkl_alloc (w.alloc (.cells (ptr3 q).toArray 41)) (rg4 ⟨0, 0, 0, 0⟩).toArray 33
 have hb := alloc_below (w.alloc (.cells (ptr3 q).toArray 41)) (.cells (rg4 ⟨0, 0, 0, 0⟩).toArray 33)
 rw [hsw] at hr0
 have hX1 := (hX.keep hB0).keep hb
 have hM1 := (hM.below hB0).below hb
 have hq1 := stab_blk _ _ _ _ hq0 hb
 have hB1 := Below.then hB0 hb
 replace hq1 : BlkL w.heap.size (ptr3 q) ((w.alloc (.cells #[.int .i64 q.s, .int .i64 q.f, .int .i64 q.r] 41)).alloc (.cells #[.int .i64 0, .int .i64 0, .int .i64 0, .int .i64 0] 33)) := hq1
 replace hr0 : BlkL (w.heap.size + 1) (rg4 ⟨0, 0, 0, 0⟩) ((w.alloc (.cells #[.int .i64 q.s, .int .i64 q.f, .int .i64 q.r] 41)).alloc (.cells #[.int .i64 0, .int .i64 0, .int .i64 0, .int .i64 0] 33)) := hr0
 replace hX1 : XAt bx c v (memI bm :: r) ((w.alloc (.cells #[.int .i64 q.s, .int .i64 q.f, .int .i64 q.r] 41)).alloc (.cells #[.int .i64 0, .int .i64 0, .int .i64 0, .int .i64 0] 33)) := hX1
 replace hM1 : MAt bm a cap m ((w.alloc (.cells #[.int .i64 q.s, .int .i64 q.f, .int .i64 q.r] 41)).alloc (.cells #[.int .i64 0, .int .i64 0, .int .i64 0, .int .i64 0] 33)) := hM1
 replace hB1 : Below w.heap.size w ((w.alloc (.cells #[.int .i64 q.s, .int .i64 q.f, .int .i64 q.r] 41)).alloc (.cells #[.int .i64 0, .int .i64 0, .int .i64 0, .int .i64 0] 33)) := hB1
 clear hq0 hB0 hsw hb hX hM
 have kn0 := fun (W : World) h1 h2 => cseg_none bm bx a cap m hm c v r q.s W h1 h2
 have kn1 := fun (W : World) h1 h2 => cseg_some bm bx a cap m hm c v r q.s W h1 h2
 rw [hg] at kn0 kn1
 by_cases c1 : g.is = false
 ·have hEE : (if E = 0 then Ending.returned (.tuple #[.int .i64 (wAt g q.f), .agg (rg4 g.rg).toArray]) else .panicked (thr E)) = .panicked (thr 35) := by
    have e : E = 35 := by rw [← hE, rdG, if_pos c1]
    rw [e]; rfl
  rw [hEE]
  clear hE hEE kn1 hg
  go_enter Tryz.func115, Tryz.ntmps115
  go_upto_region 1 with fail
  generalize (w.alloc (.cells #[.int .i64 q.s, .int .i64 q.f, .int .i64 q.r] 41)).alloc (.cells #[.int .i64 0, .int .i64 0, .int .i64 0, .int .i64 0] 33) = W0 at *
  have z0 := (hq1.1 0 _ rfl).1
  go_wp2_with fail
  refine (kn0 W0 hM1 hX1 c1).mono ?_
  rintro e W1 ⟨rfl, hb⟩
  go_wp2_with fail
  exact diedC ⟨rfl, Below.then hB1 hb⟩
 have c1' : g.is = true := by simpa using c1
 obtain ⟨e2, he2⟩ : ∃ e2, (if E = 0 then Ending.returned (.tuple #[.int .i64 (wAt g q.f), .agg (rg4 g.rg).toArray]) else .panicked (thr E)) = e2 := ⟨_, rfl⟩
 rw [he2]
 replace he2 : Aside ((if E = 0 then Ending.returned (.tuple #[.int .i64 (wAt g q.f), .agg (rg4 g.rg).toArray]) else .panicked (thr E)) = e2) := he2
 replace hE : Aside (rdG g q = E) := hE
 clear kn0 hg
 go_enter Tryz.func115, Tryz.ntmps115
 go_upto_region 1 with fail
 generalize (w.alloc (.cells #[.int .i64 q.s, .int .i64 q.f, .int .i64 q.r] 41)).alloc (.cells #[.int .i64 0, .int .i64 0, .int .i64 0, .int .i64 0] 33) = W0 at *
 have z0 := (hq1.1 0 _ rfl).1
 go_wp2_with fail
 refine (kn1 W0 hM1 hX1 c1').mono ?_
 rintro e W1 ⟨u, rfl, ho, hb⟩
 obtain ⟨W2, hW2, hth2, hg2, hB2⟩ := new_sg W1 g u
 obtain ⟨ua, uc, hu, -, -, hrow⟩ := ho.slice wd_okC.len
 have hq2 := stab_blk _ _ _ _ (stab_blk _ _ _ _ hq1 hb) hB2
 have hr2 := stab_blk _ _ _ _ (stab_blk _ _ _ _ hr0 hb) hB2
 have hBB := Below.then (Below.then hB1 hb) hB2
 have hrow2 := hrow.below wd_okC.len hB2
 have hl1 := hr0.2
 have hl2 := hb.size
 subst hu
 have hone := sg6_one g ua g.ws.length uc
 have hrx := hg2.range
 have hrgx := fld_rg hg2
 have ka := fun (W : World) => allows_any g (.slice ua g.ws.length uc) 1 W
 have kw0 := fun (W : World) h => cword_no g ua uc q.f W h
 have kw1 := fun (W : World) h1 h2 => cword_ok g ua uc q.f W h1 h2
 obtain ⟨X, hXe⟩ : ∃ X, sg6 g (.slice ua g.ws.length uc) = X := ⟨_, rfl⟩
 have hl : X.length = 6 := by rw [← hXe]; rfl
 have hszX : (Tryz.prog.info? 147).map (·.size) = some X.length := by rw [hl]; exact hszC
 have hfr : ∀ W b, BlkL b X W → W.rangeAt b 2 (rg4 g.rg) := fun W b h => by rw [← hXe] at h; exact fld_rg h
 simp only [hXe] at hW2 hth2 hg2 hone hrx ka kw0 kw1
 have hXv : Aside (.agg (sg6 g (.slice ua g.ws.length uc)).toArray = Value.agg X.toArray) := by rw [hXe]; exact rfl
 clear hXe hl ho hrow hb hB2 hq1 hr0 hB1 z0 kn1 hM1 hX1 hm
 go_upto_region 2 with (first | (refine wpList_store_row rfl _ _ rfl W1.heap.size rfl X hXv.out hth2 hszX hone hW2 ?_) | fail)
 clear hW2 hth2 hXv
 have hl3 := hg2.2
 generalize W1.heap.size = bg at *
 have z2 := (hq2.1 2 _ rfl).1
 cases c2 : hasM g.md 1 with
 | false =>
  have hEE : Aside (e2 = .panicked (thr 31)) := by
   have e : E = 31 := by rw [← hE.out, rdG, if_neg c1, if_pos (.inl c2)]
   show e2 = _
   rw [← he2.out, e]; rfl
  rw [c2] at ka
  clear hE he2 c2 kw0 kw1 hrgx z2
  go_wp2_with (first | (refine wpList_load_row rfl _ rfl bg rfl X hrx hundC rfl hszX ?_) | fail)
  refine (ka W2).mono ?_
  rintro e W3 ⟨rfl, hb⟩
  go_wp2_with fail
  refine (need_no 31 W3).mono ?_
  rintro e W4 ⟨rfl, rfl⟩
  go_wp2_with fail
  exact diedC ⟨hEE.out.symm, Below.then hBB hb⟩
 | true =>
 rw [c2] at ka
 go_wp2_with (first | (refine wpList_load_row rfl _ rfl bg rfl X hrx hundC rfl hszX ?_) | fail)
 refine (ka W2).mono ?_
 rintro e W3 ⟨rfl, hb⟩
 replace hq2 := stab_blk _ _ _ _ hq2 hb
 replace hr2 := stab_blk _ _ _ _ hr2 hb
 replace hg2 := stab_blk _ _ _ _ hg2 hb
 replace hBB := Below.then hBB hb
 replace hrow2 := hrow2.below wd_okC.len hb
 replace z2 := (hq2.1 2 _ rfl).1
 replace hrgx := hfr _ _ hg2
 replace hrx := hg2.range
 have hb8 : g.rg.v = .agg (rg4 g.rg).toArray := rfl
 have kx := fun (W : World) => mayRead_any g.rg q.r W
 rw [hb8] at kx
 clear hb ka hb8
 go_wp2_with (first | (refine wpList_load_midg (by rfl) _ rfl bg 2 rfl (rg4 g.rg) hrgx hundR rfl hszR ?_) | fail)
 refine (kx W3).mono ?_
 rintro e W4 ⟨rfl, hb⟩
 replace hq2 := stab_blk _ _ _ _ hq2 hb
 replace hr2 := stab_blk _ _ _ _ hr2 hb
 replace hg2 := stab_blk _ _ _ _ hg2 hb
 replace hBB := Below.then hBB hb
 replace hrow2 := hrow2.below wd_okC.len hb
 clear hb kx z2 hrgx hrx
 cases c3 : mayR g.rg q.r with
 | false =>
  have hEE : Aside (e2 = .panicked (thr 31)) := by
   have e : E = 31 := by rw [← hE.out, rdG, if_neg c1, if_pos (.inr c3)]
   show e2 = _
   rw [← he2.out, e]; rfl
  clear hE he2 c2 kw0 kw1 c3
  go_wp2_with fail
  refine (need_no 31 W4).mono ?_
  rintro e W5 ⟨rfl, rfl⟩
  go_wp2_with fail
  exact diedC ⟨hEE.out.symm, hBB⟩
 | true =>
 have hE2 : Aside (E = if ¬ inG g q.f then 35 else 0) := by
  show _ = _
  rw [← hE.out, rdG, if_neg c1, if_neg (by rw [c3, c2]; simp)]
 clear hE c1 c2 c1' c3
 go_wp2_with fail
 refine (need_ok 31 W4).mono ?_
 rintro e W5 ⟨rfl, rfl⟩
 go_upto_region 3 with fail
 have hdr := (Below.refl W5.heap.size W5).drew
 have hS0 : SR w.heap.size bg q X W5.drew := ⟨stab_blk _ _ _ _ hq2 hdr, stab_blk _ _ _ _ hg2 hdr⟩
 have hB0 := Below.then hBB hdr
 have hrow0 := hrow2.below wd_okC.len hdr
 have hr0 := stab_blk _ _ _ _ hr2 hdr
 clear hq2 hr2 hg2 hBB hrow2 hdr
 by_cases c5 : inG g q.f
 rotate_left
 ·have hEE : Aside (e2 = .panicked (thr 35)) := by
    have e : E = 35 := by rw [hE2.out, if_pos c5]
    show e2 = _
    rw [← he2.out, e]; rfl
  clear hE2 he2 kw1
  refine wp_region_held_drew (S := (SR w.heap.size bg q X)) (by kernel_rfl) (by exact hS0) ?_
  intro hHeld
  generalize W5.drew = w0 at *
  refine tkB 0 (y := yields_row (by rfl) _ rfl bg rfl X (fun _ s => s.g.range) hundC rfl hszX) (h := ?_)
  refine tkA 1 ?_
  refine tkB 2 (y := yields_cellI (by rfl) _ rfl ⟨w.heap.size, 1, none⟩ rfl (.int .i64 q.f) (fun _ s => (s.q.1 1 _ rfl).1) intI_load) (h := ?_)
  refine tkA 4 ?_
  refine tkB 5 (y := yieldsIf_load_mid (by rfl) 33 _ rfl bg 2 rfl (rg4 g.rg) _ (fun W s => hfr W bg s.g) hundR rfl hszR) (h := ?_)
  refine tkR (rs := [3]) ?_
  refine tkC (fun K hK => ?_) AllReadyH.nil
  go_simp
  go_at_call 132
  refine (kw0 w0 c5).mono ?_
  rintro e w1 ⟨rfl, hb⟩
  exact (show _ ∧ _ from ⟨rfl, hEE.out.symm, Below.then hB0 hb⟩)
 have hEE : Aside (e2 = .returned (.tuple #[.int .i64 (wAt g q.f), .agg (rg4 g.rg).toArray])) := by
  have e : E = 0 := by rw [hE2.out, if_neg (by simpa using c5)]
  show e2 = _
  rw [← he2.out, e]; rfl
 clear hE2 he2 kw0
 refine wp_region_held_drew (S := (SR w.heap.size bg q X)) (by kernel_rfl) (by exact hS0) ?_
 intro hHeld
 generalize W5.drew = w0 at *
 refine tkB 0 (y := yields_row (by rfl) _ rfl bg rfl X (fun _ s => s.g.range) hundC rfl hszX) (h := ?_)
 refine tkA 1 ?_
 refine tkB 2 (y := yields_cellI (by rfl) _ rfl ⟨w.heap.size, 1, none⟩ rfl (.int .i64 q.f) (fun _ s => (s.q.1 1 _ rfl).1) intI_load) (h := ?_)
 refine tkA 4 ?_
 refine tkB 5 (y := yieldsIf_load_mid (by rfl) 33 _ rfl bg 2 rfl (rg4 g.rg) _ (fun W s => hfr W bg s.g) hundR rfl hszR) (h := ?_)
 refine tkR (rs := [3]) ?_
 refine tkC (fun K hK => ?_) AllReadyH.nil
 go_simp
 go_at_call 132
 refine (kw1 w0 c5 hrow0).mono ?_
 rintro e w1 ⟨rfl, hb⟩
 have hS1 := hS0.keep hb
 have hr1 := stab_blk _ _ _ _ hr0 hb
 have hB1 := Below.then hB0 hb
 clear hS0 hr0 hB0 hrow0 hb kw1
 refine hK.out _ _ (hS1) ?_
 clear hHeld hK
 intro hHeld
 generalize wAt g q.f = wd at *
 (try simp only [Act.put, zsA, zsB, zsC])
 refine tkA 6 ?_
 refine tkR (rs := [7]) ?_
 refine tkC (fun K hK => ?_) AllReadyH.nil
 obtain ⟨W7, hW7, hth7, hb7, hk7⟩ := put_any hr1 (ds := rg4 g.rg) rfl (by show 0 < 4; decide)
 have hB7 := hk7 _ _ (Nat.le_succ _) hB1
 have hfar : ∀ j, j ≠ w.heap.size + 1 → W7.heap[j]? = w1.heap[j]? := fun j hj => by rw [← hW7]; exact heap_setCells_other hj _ _ _
 have hs7 : w1.heap.size ≤ W7.heap.size := (hk7 0 w1 (Nat.zero_le _) (Below.refl _ _)).size
 have hS7 : SR w.heap.size bg q X W7 := ⟨⟨hS1.q.1.same (hfar _ (by omega)), Nat.lt_of_lt_of_le hS1.q.2 hs7⟩, ⟨hS1.g.1.same (hfar _ (by omega)), Nat.lt_of_lt_of_le hS1.g.2 hs7⟩⟩
 refine step_store_rowC rfl _ _ rfl (w.heap.size + 1) rfl (rg4 g.rg) rfl hth7 hszR (rg4_one _) hW7 ?_
 (try simp only [Act.put, zsA, zsB, zsC])
 refine hK.out _ _ (hS7) ?_
 clear hHeld hK
 intro hHeld
 (try simp only [Act.put, zsA, zsB, zsC])
 refine wpAnyH_done (by kernel_rfl) ?_ _
 go_wp2_with fail
 refine bodyPost_ret (v := .tuple #[.int .i64 wd, .agg (rg4 g.rg).toArray]) (results_cell_row rfl _ _ (.int .i64 wd) rfl (w.heap.size + 1) rfl (rg4 g.rg) hb7.range hundR rfl hszR) rfl ?_
 exact ⟨hEE.out.symm, hB7⟩
end Go.Proofs.YtidihdiffiffmaaGreatDoor
namespace Go.Proofs.YtidihdiffiffmaaGreatDoor
open Go.RowKit
set_option maxRecDepth 8000
set_option linter.unusedSimpArgs false
set_option linter.unusedVariables false
def wrG (g : Sg) (q : Ptr) : Int := if g.is = false then 35 else if hasM g.md 2 = false ∨ mayW g.rg q.r = false then 32 else if ¬ inG g q.f then 35 else 0
theorem wrE_eq (c : Cp) (m : List Sg) (i : Ins) : wrE c m i = wrG (kn m (memP c i).s) (memP c i) := rfl
theorem heap_setCell_congr {w w' : World} {g : Nat} (h : w'.heap[g]? = w.heap[g]?) (o : Nat) (u : Value) : (w'.setCell ⟨g, o, none⟩ u).heap[g]? = (w.setCell ⟨g, o, none⟩ u).heap[g]? := by
 unfold World.setCell
 simp only [Array.getElem?_modify, h]
def WrP (bm : Nat) (sl : List PG) (n : Int) (q : Ptr) (A E : Int) (w : World) (e : Ending) (w' : World) : Prop :=
 (E ≠ 0 ∧ e = .panicked (thr E) ∧ Below w.heap.size w w') ∨ (E = 0 ∧ (∃ r, e = .returned r) ∧ WrtM sl q.s q.f A w w')
structure SW (bq bx : Nat) (q : Ptr) (A : Int) (M : Value) (W : World) : Prop where
 q : BlkL bq (ptr3 q) W
 a : W.cell? ⟨bx, 3, none⟩ = some (.int .i64 A)
 m : W.cell? ⟨bx, 18, none⟩ = some M
theorem int64_load (w : World) (y : Addr) (v : Value) (h : w.cell? y = some v) : (Instr.loadAt 2 (.pointer (some y))).run Tryz.prog w = .ok v w := by
 have h1 := Tryz.underlying2
 go_simp
theorem memI_load (w : World) (y : Addr) (v : Value) (h : w.cell? y = some v) : (Instr.loadAt 140 (.pointer (some y))).run Tryz.prog w = .ok v w := by
 have h1 := Tryz.underlying140
 go_simp
theorem seg_field (g : Sg) (v : Value) (w : World) : (Instr.field 147 (.agg (sg6 g v).toArray) 0).run Tryz.prog w = .ok v w := by
 have h1 := Tryz.underlying147
 have h2 := Tryz.underlying34
 simp [Instr.field, sg6, part, isAgg, asAgg, run_underlying h1, run_underlying h2, TypeDesc.isRow]
theorem OwnR.formM {α : Type} {e : TypeId} {sz base : Nat} {f : α → List Value} {w : World} {v : Value} {l : List α} (h : OwnR e sz f w base v l) (hl : 0 < l.length) : ∃ g cap, v = .slice (some ⟨g, 0, none⟩) l.length cap ∧ base ≤ g ∧ g < w.heap.size := by
 rcases h.2 with ⟨rfl, h0⟩ | ⟨g, cap, cur, hv, hb, _⟩
 ·omega
 ·exact ⟨g, cap, hv, hb, (h.lt (show v.ownBlock = some g by rw [hv]; rfl)).2⟩
theorem OwnR.cellM {e : TypeId} {base g n cap : Nat} {w : World} {l : List Int} (h : OwnR e 1 wcl w base (.slice (some ⟨g, 0, none⟩) n cap) l) {j : Nat} {x : Int} (hx : l[j]? = some x) : w.frozen? ⟨g, j, none⟩ = false ∧ ∃ z, w.cell? ⟨g, j, none⟩ = some z := by
 obtain ⟨a, c, hv, -, -, hr⟩ := h.slice wd_okC.len
 injection hv with e1 e2 e3
 subst e1
 subst e2
 refine ⟨World.ownsRow.frozenAt (show w.ownsRow base e 1 (.slice (some ⟨g, 0, none⟩) l.length cap) l.length (l.flatMap wcl) from h) _, ?_⟩
 obtain ⟨y', hy', hc⟩ := hr j x hx
 injection hy' with hy'
 subst hy'
 have := hc 0 (by decide)
 rw [add_at] at this
 exact ⟨_, by simpa [wcl] using this⟩
theorem finds_wr (p : Nat) (w : World) : Sem.run Tryz.prog (method 358 108 (.map (some p)) "Write") w = .ok (204, .map (some p)) w := by rfl
theorem enters_wr (args : Array Value) (w : World) : Sem.run Tryz.prog (callFunc 204 args) w = .ok (.enter 204 args) w := by rfl
set_option maxHeartbeats 2000000 in
theorem mwr_any (bm : Nat) (a : Option Addr) (cap : Nat) (m : List PG) (k o y : Int) (w : World) (hM : MAt bm a cap m w) (hyes : (kn (m.map (·.g)) k).is = true) (hin : inG (kn (m.map (·.g)) k) o) :
    Calls Tryz.prog 204 #[.map (some bm), .int .i64 k, .int .i64 o, .int .i64 y] w fun e w' => (∃ r, e = .returned r) ∧ WrtM m k o y w w' := by
 have hlk := lookI Tryz.underlying108 hM.map k hyes
 have hmem := (knP_mem hyes).1
 have hgg := knP_g m k
 have ho := hM.own _ hmem (by rw [hgg]; exact hyes)
 rw [← hgg] at hin
 obtain ⟨j, rfl, hj⟩ : ∃ j : Nat, o = (j : Int) ∧ j < (knP m k).g.ws.length := ⟨o.toNat, by have := hin.1; omega, by have := hin.1; have := hin.2; omega⟩
 unfold segV at hlk
 have hfd := fun (g : Sg) (v : Value) => seg_field g v w
 obtain ⟨g, hg⟩ : ∃ g, g = (knP m k).g := ⟨_, rfl⟩
 have hv : ∃ b c, (knP m k).v = .slice (some ⟨b, 0, none⟩) g.ws.length c ∧ b < w.heap.size := by
  obtain ⟨b, c, hv, _, hb⟩ := OwnR.formM ho (by omega)
  exact ⟨b, c, by rw [hg]; exact hv, hb⟩
 obtain ⟨b, c, hv, hbl⟩ := hv
 rw [← hg] at hlk ho hj
 rw [hv] at hlk ho
 obtain ⟨x, hx⟩ : ∃ x, g.ws[j]? = some x := ⟨_, List.getElem?_eq_getElem hj⟩
 obtain ⟨hfz, z, hz⟩ := OwnR.cellM ho hx
 have hvb : (knP m k).v.ownBlock = some b := by rw [hv]; rfl
 have hS : Sole b w (w.setCell ⟨b, j, none⟩ (.int .i64 y)) := ⟨rfl, rfl, rfl, by simp, fun q hq hne => heap_setCell_other _ ⟨b, j, none⟩ q _ hne⟩
 have hi1 : (j : Int) < (g.ws.length : Int) := by omega
 have hi2 : ¬ (j : Int) < 0 := by omega
 have hi3 : ¬ (g.ws.length : Int) ≤ (j : Int) := by omega
 have hi4 : (j : Int).toNat = j := Int.toNat_natCast j
 have hR : WrtM m k (j : Int) y w (w.setCell ⟨b, j, none⟩ (.int .i64 y)) := ⟨b, hvb, hbl, hS, by rw [hi4]⟩
 generalize g.ws.length = ln at *
 clear hS hx ho hv hvb hin hgg hmem hyes hM hg
 go_enter Tryz.func204, Tryz.ntmps204
 go_wp2_with fail
 refine bodyPost_end (v := .tuple #[]) (by simp [results, Tryz.results204, go_sem]) rfl ?_
 exact ⟨⟨_, rfl⟩, hR⟩
set_option maxRecDepth 8000 in
set_option maxHeartbeats 4000000 in
theorem cwrite_any (bm bx : Nat) (a : Option Addr) (cap : Nat) (m : List PG) (hm : MG m) (c : Cp) (v : Value) (r : List Value) (q : Ptr) (g : Sg) (hg : kn (m.map (·.g)) q.s = g) (E : Int) (hE : wrG g q = E) (is : Bool) (s o x n : Int) (hn : 0 ≤ n ∧ n < 1000000) (w : World) (hN : MAt bm a cap m w) (hX : XAt bx c v (memI bm :: r) w) (hne : ∀ x ∈ m, x.g.is = true → x.v.ownBlock ≠ some bx) :
    Calls Tryz.prog 117 #[.pointer (some ⟨bx, 0, none⟩), .agg (ptr3 q).toArray] w (WrP bm m n q c.a E w) := by
 have hundC := Tryz.underlying147
 have hszC : (Tryz.prog.info? 147).map (·.size) = some 6 := by kernel_rfl
 have hundR := Tryz.underlying33
 have hszR : (Tryz.prog.info? 33).map (·.size) = some 4 := by kernel_rfl
 have hq0 := blkl_alloc w (ptr3 q).toArray 41
 have hB0 := alloc_below w (.cells (ptr3 q).toArray 41)
 have hM : MAt bm a cap m w := hN
 have hgA : Aside (kn (m.map (·.g)) q.s = g) := hg
 have hlow := hN.low
 have hX1 := hX.keep hB0
 have hM1 := hM.below hB0
 have hq1 := hq0
 have hB1 := hB0
 replace hq1 : BlkL w.heap.size (ptr3 q) (w.alloc (.cells #[.int .i64 q.s, .int .i64 q.f, .int .i64 q.r] 41)) := hq1
 have hN1 : MAt bm a cap m (w.alloc (.cells #[.int .i64 q.s, .int .i64 q.f, .int .i64 q.r] 41)) := hN.below hB0
 replace hX1 : XAt bx c v (memI bm :: r) (w.alloc (.cells #[.int .i64 q.s, .int .i64 q.f, .int .i64 q.r] 41)) := hX1
 replace hM1 : MAt bm a cap m (w.alloc (.cells #[.int .i64 q.s, .int .i64 q.f, .int .i64 q.r] 41)) := hM1
 replace hB1 : Below w.heap.size w (w.alloc (.cells #[.int .i64 q.s, .int .i64 q.f, .int .i64 q.r] 41)) := hB1
 have hbm := hN.lt
 have hbx := hX.lt
 clear hq0 hB0 hX hM hN
 have kn0 := fun (W : World) h1 h2 => cseg_none bm bx a cap m hm c v r q.s W h1 h2
 have kn1 := fun (W : World) h1 h2 => cseg_some bm bx a cap m hm c v r q.s W h1 h2
 rw [hg] at kn0 kn1
 by_cases c1 : g.is = false
 ·have e35 : E = 35 := by rw [← hE, wrG, if_pos c1]
  subst e35
  replace hE : Aside (wrG g q = 35) := hE
  clear kn1 hg
  go_enter Tryz.func117, Tryz.ntmps117
  go_upto_region 1 with fail
  generalize w.alloc (.cells #[.int .i64 q.s, .int .i64 q.f, .int .i64 q.r] 41) = W0 at *
  have z0 := (hq1.1 0 _ rfl).1
  go_wp2_with fail
  refine (kn0 W0 hM1 hX1 c1).mono ?_
  rintro e W1 ⟨rfl, hb⟩
  go_wp2_with fail
  exact diedC (.inl ⟨by decide, rfl, Below.then hB1 hb⟩)
 have c1' : g.is = true := by simpa using c1
 replace hE : Aside (wrG g q = E) := hE
 clear kn0 hg
 go_enter Tryz.func117, Tryz.ntmps117
 go_upto_region 1 with fail
 generalize w.alloc (.cells #[.int .i64 q.s, .int .i64 q.f, .int .i64 q.r] 41) = W0 at *
 have z0 := (hq1.1 0 _ rfl).1
 go_wp2_with fail
 refine (kn1 W0 hM1 hX1 c1').mono ?_
 rintro e W1 ⟨u, rfl, ho, hb⟩
 obtain ⟨W2, hW2, hth2, hg2, hB2⟩ := new_sg W1 g u
 obtain ⟨ua, uc, hu, -, -, hrow⟩ := ho.slice wd_okC.len
 have hq2 := stab_blk _ _ _ _ (stab_blk _ _ _ _ hq1 hb) hB2
 have hN2 := (hN1.below hb).below hB2
 have hX2 := (hX1.keep hb).keep hB2
 have hBB := Below.then (Below.then hB1 hb) hB2
 have hrow2 := hrow.below wd_okC.len hB2
 have hl2 := hb.size
 subst hu
 have hone := sg6_one g ua g.ws.length uc
 have hrx := hg2.range
 have hrgx := fld_rg hg2
 have ka := fun (W : World) => allows_any g (.slice ua g.ws.length uc) 2 W
 have kh := fun (W : World) => has_any g ua uc q.f W
 obtain ⟨X, hXe⟩ : ∃ X, sg6 g (.slice ua g.ws.length uc) = X := ⟨_, rfl⟩
 have hl : X.length = 6 := by rw [← hXe]; rfl
 have hszX : (Tryz.prog.info? 147).map (·.size) = some X.length := by rw [hl]; exact hszC
 have hfr : ∀ W b, BlkL b X W → W.rangeAt b 2 (rg4 g.rg) := fun W b h => by rw [← hXe] at h; exact fld_rg h
 simp only [hXe] at hW2 hth2 hg2 hone hrx ka kh
 have hXv : Aside (.agg (sg6 g (.slice ua g.ws.length uc)).toArray = Value.agg X.toArray) := by rw [hXe]; exact rfl
 clear hXe hl ho hrow hb hB2 hq1 hN1 hB1 z0 kn1 hM1 hX1 hm
 go_upto_region 2 with (first | (refine wpList_store_row rfl _ _ rfl W1.heap.size rfl X hXv.out hth2 hszX hone hW2 ?_) | fail)
 clear hW2 hth2 hXv
 have hl3 := hg2.2
 generalize W1.heap.size = bg at *
 have z2 := (hq2.1 2 _ rfl).1
 cases c2 : hasM g.md 2 with
 | false =>
  have hEE : Aside (E = 32) := by
   show _ = _
   rw [← hE.out, wrG, if_neg c1, if_pos (.inl c2)]
  rw [c2] at ka
  clear hE c2 kh hrgx z2
  go_wp2_with (first | (refine wpList_load_row rfl _ rfl bg rfl X hrx hundC rfl hszX ?_) | fail)
  refine (ka W2).mono ?_
  rintro e W3 ⟨rfl, hb⟩
  go_wp2_with fail
  refine (need_no 32 W3).mono ?_
  rintro e W4 ⟨rfl, rfl⟩
  go_wp2_with fail
  exact diedC (.inl ⟨by rw [hEE.out]; decide, by rw [hEE.out], Below.then hBB hb⟩)
 | true =>
 rw [c2] at ka
 go_wp2_with (first | (refine wpList_load_row rfl _ rfl bg rfl X hrx hundC rfl hszX ?_) | fail)
 refine (ka W2).mono ?_
 rintro e W3 ⟨rfl, hb⟩
 replace hq2 := stab_blk _ _ _ _ hq2 hb
 replace hN2 := hN2.below hb
 replace hX2 := hX2.keep hb
 replace hg2 := stab_blk _ _ _ _ hg2 hb
 replace hBB := Below.then hBB hb
 replace hrow2 := hrow2.below wd_okC.len hb
 replace z2 := (hq2.1 2 _ rfl).1
 replace hrgx := hfr _ _ hg2
 replace hrx := hg2.range
 have hb8 : g.rg.v = .agg (rg4 g.rg).toArray := rfl
 have kx := fun (W : World) => mayWrite_any g.rg q.r W
 rw [hb8] at kx
 clear hb ka hb8
 go_wp2_with (first | (refine wpList_load_midg (by rfl) _ rfl bg 2 rfl (rg4 g.rg) hrgx hundR rfl hszR ?_) | fail)
 refine (kx W3).mono ?_
 rintro e W4 ⟨rfl, hb⟩
 replace hq2 := stab_blk _ _ _ _ hq2 hb
 replace hN2 := hN2.below hb
 replace hX2 := hX2.keep hb
 replace hg2 := stab_blk _ _ _ _ hg2 hb
 replace hBB := Below.then hBB hb
 replace hrow2 := hrow2.below wd_okC.len hb
 clear hb kx z2 hrgx hrx
 cases c3 : mayW g.rg q.r with
 | false =>
  have hEE : Aside (E = 32) := by
   show _ = _
   rw [← hE.out, wrG, if_neg c1, if_pos (.inr c3)]
  clear hE c2 kh c3
  go_wp2_with fail
  refine (need_no 32 W4).mono ?_
  rintro e W5 ⟨rfl, rfl⟩
  go_wp2_with fail
  exact diedC (.inl ⟨by rw [hEE.out]; decide, by rw [hEE.out], hBB⟩)
 | true =>
 have hE2 : Aside (E = if ¬ inG g q.f then 35 else 0) := by
  show _ = _
  rw [← hE.out, wrG, if_neg c1, if_neg (by rw [c3, c2]; simp)]
 clear hE c1 c2 c3
 go_wp2_with fail
 refine (need_ok 32 W4).mono ?_
 rintro e W5 ⟨rfl, rfl⟩
 have hrx := hg2.range
 cases c5 : decide (inG g q.f) with
 | false =>
  rw [c5] at kh
  have hEE : Aside (E = 35) := by
   show _ = _
   rw [hE2.out, if_pos (by simpa using c5)]
  clear hE2 c5
  have z1 := (hq2.1 1 _ rfl).1
  go_wp2_with (first | (refine wpList_load_row rfl _ rfl bg rfl X hrx hundC rfl hszX ?_) | fail)
  refine (kh W5).mono ?_
  rintro e W6 ⟨rfl, hb⟩
  go_wp2_with fail
  refine (need_no 35 W6).mono ?_
  rintro e W7 ⟨rfl, rfl⟩
  go_wp2_with fail
  exact diedC (.inl ⟨by rw [hEE.out]; decide, by rw [hEE.out], Below.then hBB hb⟩)
 | true =>
 rw [c5] at kh
 have hEE : Aside (E = 0) := by
  show _ = _
  rw [hE2.out, if_neg (by simpa using c5)]
 have hin : inG g q.f := of_decide_eq_true c5
 clear hE2 c5
 have z1 := (hq2.1 1 _ rfl).1
 go_wp2_with (first | (refine wpList_load_row rfl _ rfl bg rfl X hrx hundC rfl hszX ?_) | fail)
 refine (kh W5).mono ?_
 rintro e W6 ⟨rfl, hb⟩
 have hq3 := stab_blk _ _ _ _ hq2 hb
 have hN3 := hN2.below hb
 have hX3 := hX2.keep hb
 have hB3 := Below.then hBB hb
 clear hq2 hN2 hX2 hBB hb z1 kh hrx hg2 hrow2
 go_wp2_with fail
 refine (need_ok 35 W6).mono ?_
 rintro e W7 ⟨rfl, rfl⟩
 go_upto_region 4 with fail
 have hf := finds_wr bm
 have he := enters_wr
 have hdr := (Below.refl W7.heap.size W7).drew
 have hq4 := stab_blk _ _ _ _ hq3 hdr
 have hN4 := hN3.below hdr
 have hX4 := hX3.keep hdr
 have hB4 := Below.then hB3 hdr
 have hS0 : SW w.heap.size bx q c.a (memI bm) W7.drew := ⟨hq4, hX4.a, (hX4.tails (i := 0) rfl).1⟩
 clear hq3 hN3 hX3 hB3 hdr hX4
 refine wp_region_held_drew (S := (SW w.heap.size bx q c.a (memI bm))) (by kernel_rfl) (by exact hS0) ?_
 intro hHeld
 generalize W7.drew = w0 at *
 refine tkA 0 ?_
 refine tkA 1 ?_
 refine tkA 2 ?_
 refine tkB 3 (y := yields_cellI (by rfl) _ rfl ⟨bx, 18, none⟩ rfl (memI bm) (fun _ s => s.m) memI_load) (h := ?_)
 refine tkA 4 ?_
 refine tkB 5 (y := yields_cellI (by rfl) _ rfl ⟨w.heap.size, 0, none⟩ rfl (.int .i64 q.s) (fun _ s => (s.q.1 0 _ rfl).1) intI_load) (h := ?_)
 refine tkA 6 ?_
 refine tkB 7 (y := yields_cellI (by rfl) _ rfl ⟨w.heap.size, 1, none⟩ rfl (.int .i64 q.f) (fun _ s => (s.q.1 1 _ rfl).1) intI_load) (h := ?_)
 refine tkA 8 ?_
 refine tkA 9 ?_
 refine tkA 10 ?_
 refine tkA 11 ?_
 refine tkB 12 (y := yields_cellI (by rfl) _ rfl ⟨bx, 3, none⟩ rfl (.int .i64 c.a) (fun _ s => s.a) int64_load) (h := ?_)
 refine tkA 13 ?_
 refine tkA 14 ?_
 refine tkR (rs := [15]) ?_
 refine tkC (fun K hK => ?_) AllReadyH.nil
 go_simp
 refine (mwr_any bm a cap m q.s q.f c.a w0 hN4 (by rw [hgA.out]; exact c1') (by rw [hgA.out]; exact hin)).mono ?_
 rintro e w1 ⟨⟨rr, rfl⟩, gw, hgw, hgl, hso, hce⟩
 have hkm : (kn (m.map (·.g)) q.s).is = true := by rw [hgA.out]; exact c1'
 have hgb : gw < w.heap.size := hlow _ (knP_mem hkm).1 (by rw [knP_g]; exact hkm) _ hgw
 have hgx : bx ≠ gw := fun q9 => hne _ (knP_mem hkm).1 (by rw [knP_g]; exact hkm) (by rw [hgw, q9])
 have hO1 : Sole gw w w1 := (show Sole gw w w0 from ⟨hB4.os, hB4.tape, hB4.output, hB4.size, fun j hj _ => hB4.block j hj⟩).trans hso
 have hcell : w1.heap[gw]? = (w.setCell ⟨gw, q.f.toNat, none⟩ (.int .i64 c.a)).heap[gw]? := by
  rw [hce]
  exact heap_setCell_congr (hB4.block gw hgb) _ _
 have hS1 : SW w.heap.size bx q c.a (memI bm) w1 := ⟨⟨hq4.1.same (hso.block _ hq4.2 (by omega)), Nat.lt_of_lt_of_le hq4.2 hso.size⟩, (World.cell?_of_block (a := ⟨bx, 3, none⟩) (hso.block bx (World.block_lt_of_cell? _ _ hS0.a) hgx)).trans hS0.a, (World.cell?_of_block (a := ⟨bx, 18, none⟩) (hso.block bx (World.block_lt_of_cell? _ _ hS0.a) hgx)).trans hS0.m⟩
 refine hK.out _ _ (hS1) ?_
 clear hHeld hK
 intro hHeld
 (try simp only [Act.put, zsA, zsB, zsC])
 refine wpAnyH_done (by kernel_rfl) ?_ _
 go_wp2_with fail
 refine bodyPost_end (v := .tuple #[]) (by simp [results, Tryz.results117, go_sem]) rfl ?_
 exact .inr ⟨hEE.out, ⟨_, rfl⟩, gw, hgw, hgb, hO1, hcell⟩
end Go.Proofs.YtidihdiffiffmaaGreatDoor
namespace Go.Proofs.YtidihdiffiffmaaGreatDoor
open Go.RowKit
set_option maxRecDepth 8000
set_option linter.unusedSimpArgs false
set_option linter.unusedVariables false
theorem mask3_any (w : World) : Calls Tryz.prog 174 #[.int .u64 3] w fun e w' => e = .returned (.int .u64 7) ∧ w' = w := by
 go_enter Tryz.func174, Tryz.ntmps174
 go_wp2
 go_ret
 exact ⟨rfl, rfl⟩
theorem mask8_any (w : World) : Calls Tryz.prog 174 #[.int .u64 8] w fun e w' => e = .returned (.int .u64 255) ∧ w' = w := by
 go_enter Tryz.func174, Tryz.ntmps174
 go_wp2
 go_ret
 exact ⟨rfl, rfl⟩
theorem mask16_any (w : World) : Calls Tryz.prog 174 #[.int .u64 16] w fun e w' => e = .returned (.int .u64 65535) ∧ w' = w := by
 go_enter Tryz.func174, Tryz.ntmps174
 go_wp2
 go_ret
 exact ⟨rfl, rfl⟩
theorem mask32_any (w : World) : Calls Tryz.prog 174 #[.int .u64 32] w fun e w' => e = .returned (.int .u64 4294967295) ∧ w' = w := by
 go_enter Tryz.func174, Tryz.ntmps174
 go_wp2
 go_ret
 exact ⟨rfl, rfl⟩
set_option maxHeartbeats 1000000 in
theorem put0_32 (n : Int) (w : World) : Calls Tryz.prog 160 #[.int .i64 n, .int .u64 0, .int .u64 32] w fun e w' => e = .returned (.int .i64 (n % 4294967296)) ∧ Below w.heap.size w w' := by
 obtain ⟨u, hu⟩ : ∃ u, IntKind.u64.wrap n = u := ⟨_, rfl⟩
 obtain ⟨m, hm⟩ : ∃ m, u % 4294967296 = m := ⟨_, rfl⟩
 have hA : bits .and .u64 u 4294967295 = m := by rw [and_u64 32 (by decide) 4294967296 4294967295 (by decide) (by decide), hm]
 have hn : n % 4294967296 = m := by rw [← hm, ← hu, IntKind.wrap_u64]; omega
 have hb : IntKind.u64.wrap (m) = m := by rw [IntKind.wrap_u64]; omega
 have hc : IntKind.i64.wrap (m) = m := by rw [IntKind.wrap_i64]; omega
 have hr : Aside ((n % 4294967296) = m) := by show _ = _; omega
 clear hm hn
 go_enter Tryz.func160, Tryz.ntmps160
 go_wp2_with (first | (go_at_call 174; refine (mask32_any _).mono ?_; rintro e w' ⟨rfl, rfl⟩) | fail)
 go_ret
 exact ⟨by rw [hr.out]; rfl, Below.refl _ _⟩
set_option maxHeartbeats 1000000 in
theorem put48_3 (n : Int) (w : World) : Calls Tryz.prog 160 #[.int .i64 n, .int .u64 48, .int .u64 3] w fun e w' => e = .returned (.int .i64 (n % 8 * 281474976710656)) ∧ Below w.heap.size w w' := by
 obtain ⟨u, hu⟩ : ∃ u, IntKind.u64.wrap n = u := ⟨_, rfl⟩
 obtain ⟨m, hm⟩ : ∃ m, u % 8 = m := ⟨_, rfl⟩
 have hA : bits .and .u64 u 7 = m := by rw [and_u64 3 (by decide) 8 7 (by decide) (by decide), hm]
 have hn : n % 8 = m := by rw [← hm, ← hu, IntKind.wrap_u64]; omega
 have hb : IntKind.u64.wrap (m * 281474976710656) = m * 281474976710656 := by rw [IntKind.wrap_u64]; omega
 have hc : IntKind.i64.wrap (m * 281474976710656) = m * 281474976710656 := by rw [IntKind.wrap_i64]; omega
 have hr : Aside ((n % 8 * 281474976710656) = m * 281474976710656) := by show _ = _; omega
 clear hm hn
 go_enter Tryz.func160, Tryz.ntmps160
 go_wp2_with (first | (go_at_call 174; refine (mask3_any _).mono ?_; rintro e w' ⟨rfl, rfl⟩) | fail)
 go_ret
 exact ⟨by rw [hr.out]; rfl, Below.refl _ _⟩
set_option maxHeartbeats 1000000 in
theorem put32_16 (n : Int) (w : World) : Calls Tryz.prog 160 #[.int .i64 n, .int .u64 32, .int .u64 16] w fun e w' => e = .returned (.int .i64 (n % 65536 * 4294967296)) ∧ Below w.heap.size w w' := by
 obtain ⟨u, hu⟩ : ∃ u, IntKind.u64.wrap n = u := ⟨_, rfl⟩
 obtain ⟨m, hm⟩ : ∃ m, u % 65536 = m := ⟨_, rfl⟩
 have hA : bits .and .u64 u 65535 = m := by rw [and_u64 16 (by decide) 65536 65535 (by decide) (by decide), hm]
 have hn : n % 65536 = m := by rw [← hm, ← hu, IntKind.wrap_u64]; omega
 have hb : IntKind.u64.wrap (m * 4294967296) = m * 4294967296 := by rw [IntKind.wrap_u64]; omega
 have hc : IntKind.i64.wrap (m * 4294967296) = m * 4294967296 := by rw [IntKind.wrap_i64]; omega
 have hr : Aside ((n % 65536 * 4294967296) = m * 4294967296) := by show _ = _; omega
 clear hm hn
 go_enter Tryz.func160, Tryz.ntmps160
 go_wp2_with (first | (go_at_call 174; refine (mask16_any _).mono ?_; rintro e w' ⟨rfl, rfl⟩) | fail)
 go_ret
 exact ⟨by rw [hr.out]; rfl, Below.refl _ _⟩
set_option maxHeartbeats 1000000 in
theorem get56_8 (x : Int) (w : World) : Calls Tryz.prog 165 #[.int .i64 x, .int .u64 56, .int .u64 8] w fun e w' => e = .returned (.int .i64 (wOp x)) ∧ w' = w := by
 obtain ⟨u, hu⟩ : ∃ u, IntKind.u64.wrap x = u := ⟨_, rfl⟩
 have hu' : u64 x = u := by rw [← hu, IntKind.wrap_u64]; rfl
 have u0 : 0 ≤ u ∧ u < 18446744073709551616 := by rw [← hu']; unfold u64; omega
 obtain ⟨m, hm⟩ : ∃ m, (u / 72057594037927936) % 256 = m := ⟨_, rfl⟩
 have hA : bits .and .u64 (u / 72057594037927936) 255 = m := by rw [and_u64 8 (by decide) 256 255 (by decide) (by decide), hm]
 have hc : IntKind.i64.wrap m = m := by rw [IntKind.wrap_i64]; omega
 have hr : Aside (wOp x = m) := by show _ = _; rw [← hm]; (try unfold wOp); (try unfold wP); (try unfold wLow); (try unfold wMid); rw [hu']; (try omega)
 clear hm hu' u0
 go_enter Tryz.func165, Tryz.ntmps165
 go_wp2_with (first | (go_at_call 174; refine (mask8_any _).mono ?_; rintro e w' ⟨rfl, rfl⟩) | fail)
 go_ret
 exact ⟨by rw [hr.out]; rfl, rfl⟩
set_option maxHeartbeats 1000000 in
theorem get48_8 (x : Int) (w : World) : Calls Tryz.prog 165 #[.int .i64 x, .int .u64 48, .int .u64 8] w fun e w' => e = .returned (.int .i64 (wP x)) ∧ w' = w := by
 obtain ⟨u, hu⟩ : ∃ u, IntKind.u64.wrap x = u := ⟨_, rfl⟩
 have hu' : u64 x = u := by rw [← hu, IntKind.wrap_u64]; rfl
 have u0 : 0 ≤ u ∧ u < 18446744073709551616 := by rw [← hu']; unfold u64; omega
 obtain ⟨m, hm⟩ : ∃ m, (u / 281474976710656) % 256 = m := ⟨_, rfl⟩
 have hA : bits .and .u64 (u / 281474976710656) 255 = m := by rw [and_u64 8 (by decide) 256 255 (by decide) (by decide), hm]
 have hc : IntKind.i64.wrap m = m := by rw [IntKind.wrap_i64]; omega
 have hr : Aside (wP x = m) := by show _ = _; rw [← hm]; (try unfold wOp); (try unfold wP); (try unfold wLow); (try unfold wMid); rw [hu']; (try omega)
 clear hm hu' u0
 go_enter Tryz.func165, Tryz.ntmps165
 go_wp2_with (first | (go_at_call 174; refine (mask8_any _).mono ?_; rintro e w' ⟨rfl, rfl⟩) | fail)
 go_ret
 exact ⟨by rw [hr.out]; rfl, rfl⟩
set_option maxHeartbeats 1000000 in
theorem get0_32 (x : Int) (w : World) : Calls Tryz.prog 165 #[.int .i64 x, .int .u64 0, .int .u64 32] w fun e w' => e = .returned (.int .i64 (wLow x)) ∧ w' = w := by
 obtain ⟨u, hu⟩ : ∃ u, IntKind.u64.wrap x = u := ⟨_, rfl⟩
 have hu' : u64 x = u := by rw [← hu, IntKind.wrap_u64]; rfl
 have u0 : 0 ≤ u ∧ u < 18446744073709551616 := by rw [← hu']; unfold u64; omega
 obtain ⟨m, hm⟩ : ∃ m, u % 4294967296 = m := ⟨_, rfl⟩
 have hA : bits .and .u64 u 4294967295 = m := by rw [and_u64 32 (by decide) 4294967296 4294967295 (by decide) (by decide), hm]
 have hc : IntKind.i64.wrap m = m := by rw [IntKind.wrap_i64]; omega
 have hr : Aside (wLow x = m) := by show _ = _; rw [← hm]; (try unfold wOp); (try unfold wP); (try unfold wLow); (try unfold wMid); rw [hu']; (try omega)
 clear hm hu' u0
 go_enter Tryz.func165, Tryz.ntmps165
 go_wp2_with (first | (go_at_call 174; refine (mask32_any _).mono ?_; rintro e w' ⟨rfl, rfl⟩) | fail)
 go_ret
 exact ⟨by rw [hr.out]; rfl, rfl⟩
set_option maxHeartbeats 1000000 in
theorem get48_3 (x : Int) (w : World) : Calls Tryz.prog 165 #[.int .i64 x, .int .u64 48, .int .u64 3] w fun e w' => e = .returned (.int .i64 ((u64 x / 281474976710656 % 8))) ∧ w' = w := by
 obtain ⟨u, hu⟩ : ∃ u, IntKind.u64.wrap x = u := ⟨_, rfl⟩
 have hu' : u64 x = u := by rw [← hu, IntKind.wrap_u64]; rfl
 have u0 : 0 ≤ u ∧ u < 18446744073709551616 := by rw [← hu']; unfold u64; omega
 obtain ⟨m, hm⟩ : ∃ m, (u / 281474976710656) % 8 = m := ⟨_, rfl⟩
 have hA : bits .and .u64 (u / 281474976710656) 7 = m := by rw [and_u64 3 (by decide) 8 7 (by decide) (by decide), hm]
 have hc : IntKind.i64.wrap m = m := by rw [IntKind.wrap_i64]; omega
 have hr : Aside ((u64 x / 281474976710656 % 8) = m) := by show _ = _; rw [← hm]; (try unfold wOp); (try unfold wP); (try unfold wLow); (try unfold wMid); rw [hu']; (try omega)
 clear hm hu' u0
 go_enter Tryz.func165, Tryz.ntmps165
 go_wp2_with (first | (go_at_call 174; refine (mask3_any _).mono ?_; rintro e w' ⟨rfl, rfl⟩) | fail)
 go_ret
 exact ⟨by rw [hr.out]; rfl, rfl⟩
set_option maxHeartbeats 1000000 in
theorem get32_16 (x : Int) (w : World) : Calls Tryz.prog 165 #[.int .i64 x, .int .u64 32, .int .u64 16] w fun e w' => e = .returned (.int .i64 (wMid x)) ∧ w' = w := by
 obtain ⟨u, hu⟩ : ∃ u, IntKind.u64.wrap x = u := ⟨_, rfl⟩
 have hu' : u64 x = u := by rw [← hu, IntKind.wrap_u64]; rfl
 have u0 : 0 ≤ u ∧ u < 18446744073709551616 := by rw [← hu']; unfold u64; omega
 obtain ⟨m, hm⟩ : ∃ m, (u / 4294967296) % 65536 = m := ⟨_, rfl⟩
 have hA : bits .and .u64 (u / 4294967296) 65535 = m := by rw [and_u64 16 (by decide) 65536 65535 (by decide) (by decide), hm]
 have hc : IntKind.i64.wrap m = m := by rw [IntKind.wrap_i64]; omega
 have hr : Aside (wMid x = m) := by show _ = _; rw [← hm]; (try unfold wOp); (try unfold wP); (try unfold wLow); (try unfold wMid); rw [hu']; (try omega)
 clear hm hu' u0
 go_enter Tryz.func165, Tryz.ntmps165
 go_wp2_with (first | (go_at_call 174; refine (mask16_any _).mono ?_; rintro e w' ⟨rfl, rfl⟩) | fail)
 go_ret
 exact ⟨by rw [hr.out]; rfl, rfl⟩
set_option maxRecDepth 8000 in
set_option maxHeartbeats 4000000 in
theorem icheck_any (i : Ins) (w : World) : Calls Tryz.prog 166 #[i.v] w fun e w' => e = .returned (.int .i64 (insE i)) ∧ Below w.heap.size w w' := by
 have hb0 := blkl_alloc w (ins3 i).toArray 80
 have hB0 := alloc_below w (.cells (ins3 i).toArray 80)
 replace hb0 : BlkL w.heap.size (ins3 i) (w.alloc (.cells (ins3 i).toArray 80)) := hb0
 have z0 := (hb0.1 0 _ rfl).1
 have z1 := (hb0.1 1 _ rfl).1
 have z2 := (hb0.1 2 _ rfl).1
 clear hb0
 by_cases h0 : 0 ≤ i.o
 rotate_left
 ·have hE : insE i = 3 := by
    unfold insE
    rw [if_pos (by omega)]
  have b0 : i.o < 0 := by omega
  clear h0
  replace hE : Aside (insE i = 3) := hE
  go_enter Tryz.func166, Tryz.ntmps166
  go_upto_region 1 with fail
  generalize w.alloc (.cells #[.int .i64 i.o, .int .i64 i.p, .int .i64 i.n] 80) = W0 at *
  go_wp2_with fail
  go_ret
  exact ⟨by rw [hE.out]; rfl, hB0⟩
 have g0 : ¬ i.o < 0 := by omega
 by_cases h1 : i.o ≤ 22
 rotate_left
 ·have hE : insE i = 3 := by
    unfold insE
    rw [if_pos (by omega)]
  have b1 : 23 ≤ i.o := by omega
  clear h1
  replace hE : Aside (insE i = 3) := hE
  go_enter Tryz.func166, Tryz.ntmps166
  go_upto_region 1 with fail
  generalize w.alloc (.cells #[.int .i64 i.o, .int .i64 i.p, .int .i64 i.n] 80) = W0 at *
  go_wp2_with fail
  go_ret
  exact ⟨by rw [hE.out]; rfl, hB0⟩
 have g1 : ¬ 23 ≤ i.o := by omega
 by_cases h2 : 0 ≤ i.p
 rotate_left
 ·have hE : insE i = 1 := by
    unfold insE
    rw [if_neg (by omega), if_pos (by omega)]
  have b2 : i.p < 0 := by omega
  clear h2
  replace hE : Aside (insE i = 1) := hE
  go_enter Tryz.func166, Tryz.ntmps166
  go_upto_region 1 with fail
  generalize w.alloc (.cells #[.int .i64 i.o, .int .i64 i.p, .int .i64 i.n] 80) = W0 at *
  go_wp2_with fail
  go_ret
  exact ⟨by rw [hE.out]; rfl, hB0⟩
 have g2 : ¬ i.p < 0 := by omega
 by_cases h3 : i.p ≤ 3
 rotate_left
 ·have hE : insE i = 1 := by
    unfold insE
    rw [if_neg (by omega), if_pos (by omega)]
  have b3 : 3 < i.p := by omega
  clear h3
  replace hE : Aside (insE i = 1) := hE
  go_enter Tryz.func166, Tryz.ntmps166
  go_upto_region 1 with fail
  generalize w.alloc (.cells #[.int .i64 i.o, .int .i64 i.p, .int .i64 i.n] 80) = W0 at *
  go_wp2_with fail
  go_ret
  exact ⟨by rw [hE.out]; rfl, hB0⟩
 have g3 : ¬ 3 < i.p := by omega
 by_cases h4 : -2147483648 ≤ i.n
 rotate_left
 ·have hE : insE i = 1 := by
    unfold insE
    rw [if_neg (by omega), if_pos (by omega)]
  have b4 : i.n < -2147483648 := by omega
  clear h4
  replace hE : Aside (insE i = 1) := hE
  go_enter Tryz.func166, Tryz.ntmps166
  go_upto_region 1 with fail
  generalize w.alloc (.cells #[.int .i64 i.o, .int .i64 i.p, .int .i64 i.n] 80) = W0 at *
  go_wp2_with fail
  go_ret
  exact ⟨by rw [hE.out]; rfl, hB0⟩
 have g4 : ¬ i.n < -2147483648 := by omega
 by_cases h5 : i.n ≤ 2147483647
 rotate_left
 ·have hE : insE i = 1 := by
    unfold insE
    rw [if_neg (by omega), if_pos (by omega)]
  have b5 : 2147483647 < i.n := by omega
  clear h5
  replace hE : Aside (insE i = 1) := hE
  go_enter Tryz.func166, Tryz.ntmps166
  go_upto_region 1 with fail
  generalize w.alloc (.cells #[.int .i64 i.o, .int .i64 i.p, .int .i64 i.n] 80) = W0 at *
  go_wp2_with fail
  go_ret
  exact ⟨by rw [hE.out]; rfl, hB0⟩
 have g5 : ¬ 2147483647 < i.n := by omega
 have hE : insE i = 0 := insE_zero.2 ⟨⟨h0, h1⟩, h2, h3, h4, h5⟩
 replace hE : Aside (insE i = 0) := hE
 go_enter Tryz.func166, Tryz.ntmps166
 go_upto_region 1 with fail
 generalize w.alloc (.cells #[.int .i64 i.o, .int .i64 i.p, .int .i64 i.n] 80) = W0 at *
 go_wp2_with fail
 go_ret
 exact ⟨by rw [hE.out]; rfl, hB0⟩
end Go.Proofs.YtidihdiffiffmaaGreatDoor
namespace Go.Proofs.YtidihdiffiffmaaGreatDoor
open Go.RowKit
set_option maxRecDepth 8000
set_option linter.unusedSimpArgs false
set_option linter.unusedVariables false
set_option maxRecDepth 8000 in
set_option maxHeartbeats 4000000 in
theorem iencp_any (p : Ptr) (w : World) : Calls Tryz.prog 124 #[p.v] w fun e w' => e = .returned (.int .i64 (ptrW p)) ∧ Below w.heap.size w w' := by
 have hb1 := blkl_alloc w (ptr3 p).toArray 41
 have hB0 := alloc_below w (.cells (ptr3 p).toArray 41)
 replace hb1 : BlkL w.heap.size (ptr3 p) (w.alloc (.cells (ptr3 p).toArray 41)) := hb1
 have hW : Aside (ptrW p = bits .or .i64 (bits .or .i64 (p.r % 8 * 281474976710656) (p.s % 65536 * 4294967296)) (p.f % 4294967296)) := by
  show ptrW p = _
  rw [or_ptr (by omega) (by omega) (by omega) (by omega)]
  rfl
 go_enter Tryz.func124, Tryz.ntmps124
 go_upto_region 1 with fail
 generalize w.alloc (.cells #[.int .i64 p.s, .int .i64 p.f, .int .i64 p.r] 41) = Z at *
 have hS0 : Below Z.heap.size Z Z.drew := (Below.refl _ _).drew
 refine wp_region_held_drew (S := (fun W => Below Z.heap.size Z W)) (by kernel_rfl) (by exact hS0) ?_
 intro hHeld
 generalize Z.drew = w0 at *
 refine tkA 0 ?_
 refine tkB 1 (y := yields_cellI (by rfl) _ rfl ⟨w.heap.size, 2, none⟩ rfl (.int .i64 p.r) (fun _ q => ((stab_blk _ _ _ _ hb1 q).1 2 _ rfl).1) intI_load) (h := ?_)
 refine tkA 3 ?_
 refine tkB 4 (y := yields_cellI (by rfl) _ rfl ⟨w.heap.size, 0, none⟩ rfl (.int .i64 p.s) (fun _ q => ((stab_blk _ _ _ _ hb1 q).1 0 _ rfl).1) intI_load) (h := ?_)
 refine tkA 7 ?_
 refine tkB 8 (y := yields_cellI (by rfl) _ rfl ⟨w.heap.size, 1, none⟩ rfl (.int .i64 p.f) (fun _ q => ((stab_blk _ _ _ _ hb1 q).1 1 _ rfl).1) intI_load) (h := ?_)
 refine tkR (rs := [2]) ?_
 refine tkC (fun K hK => ?_) AllReadyH.nil
 go_simp
 go_at_call 160
 refine (put48_3 p.r w0).mono ?_
 rintro e w1 ⟨rfl, hb⟩
 have hS1 := Below.then hS0 hb
 clear hb
 refine hK.out _ _ (by exact hS1) ?_
 clear hHeld hK
 intro hHeld
 (try simp only [Act.put, zsA, zsB, zsC])
 refine tkR (rs := [5]) ?_
 refine tkC (fun K hK => ?_) AllReadyH.nil
 go_simp
 go_at_call 160
 refine (put32_16 p.s w1).mono ?_
 rintro e w2 ⟨rfl, hb⟩
 have hS2 := Below.then hS1 hb
 clear hb
 refine hK.out _ _ (by exact hS2) ?_
 clear hHeld hK
 intro hHeld
 (try simp only [Act.put, zsA, zsB, zsC])
 refine tkA 6 ?_
 refine tkR (rs := [9]) ?_
 refine tkC (fun K hK => ?_) AllReadyH.nil
 go_simp
 go_at_call 160
 refine (put0_32 p.f w2).mono ?_
 rintro e w3 ⟨rfl, hb⟩
 have hS3 := Below.then hS2 hb
 clear hb
 refine hK.out _ _ (by exact hS3) ?_
 clear hHeld hK
 intro hHeld
 (try simp only [Act.put, zsA, zsB, zsC])
 refine tkA 10 ?_
 refine tkA 11 ?_
 refine wpAnyH_done (by kernel_rfl) ?_ _
 have hfin := Below.then hB0 hS3
 go_wp2_with fail
 go_ret
 exact ⟨by rw [hW.out]; rfl, hfin⟩
set_option maxRecDepth 8000 in
set_option maxHeartbeats 4000000 in
theorem idecode_any (x : Int) (hx : fit64 x) (w : World) : Calls Tryz.prog 131 #[.int .i64 x] w fun e w' => e = .returned (.tuple #[(decI x).v, .int .i64 (decE x)]) ∧ Below w.heap.size w w' := by
 have hund := Tryz.underlying80
 have hsz : (Tryz.prog.info? 80).map (·.size) = some 3 := by kernel_rfl
 have g1 := get56_8 x
 have g2 := get48_8 x
 have g3 := get0_32 x
 have g4 := get32_16 x
 have hA5 : IntKind.i32.wrap (wLow x) = wN x := by
  rw [IntKind.wrap_i32]
  have : 0 ≤ wLow x ∧ wLow x < 4294967296 := by unfold wLow; omega
  unfold wN
  split <;> omega
 have hN : -2147483648 ≤ wN x ∧ wN x ≤ 2147483647 := by
  have : 0 ≤ wLow x ∧ wLow x < 4294967296 := by unfold wLow; omega
  unfold wN
  split <;> omega
 have hP0 : 0 ≤ wP x := by unfold wP; omega
 have hO0 : 0 ≤ wOp x := by unfold wOp u64; omega
 have hA6 : IntKind.i64.wrap (wN x) = wN x := by rw [IntKind.wrap_i64]; omega
 have hDE : decE x = if 22 < wOp x then 3 else if 3 < wP x then 1 else if wMid x ≠ 0 then 11 else 0 := rfl
 have hDI : decI x = if decE x = 0 then ⟨wOp x, wP x, wN x⟩ else ⟨0, 0, 0⟩ := rfl
 obtain ⟨J, hJ⟩ : ∃ J, decI x = J := ⟨_, rfl⟩
 obtain ⟨G, hG⟩ : ∃ G, decE x = G := ⟨_, rfl⟩
 rw [hJ, hG]
 rw [hG] at hDE
 rw [hJ, hG] at hDI
 generalize wOp x = op at *
 generalize wP x = pp at *
 generalize wN x = nn at *
 generalize wLow x = low at *
 generalize wMid x = mid at *
 have hE : insE ⟨op, pp, nn⟩ = if 22 < op then 3 else if 3 < pp then 1 else 0 := by
  unfold insE
  simp only
  repeat' split
  all_goals omega
 have kc := icheck_any ⟨op, pp, nn⟩
 obtain ⟨E, hEE⟩ : ∃ E, insE ⟨op, pp, nn⟩ = E := ⟨_, rfl⟩
 rw [hEE] at kc hE
 replace hE : Aside (E = if 22 < op then 3 else if 3 < pp then 1 else 0) := hE
 replace hDE : Aside (G = if 22 < op then 3 else if 3 < pp then 1 else if mid ≠ 0 then 11 else 0) := hDE
 replace hDI : Aside (J = if G = 0 then ⟨op, pp, nn⟩ else ⟨0, 0, 0⟩) := hDI
 clear hJ hG hEE hN hP0 hO0
 have hb0 := blkl_alloc w (ins3 ⟨0, 0, 0⟩).toArray 80
 have hB0 := alloc_below w (.cells (ins3 ⟨0, 0, 0⟩).toArray 80)
 replace hb0 : BlkL w.heap.size (ins3 ⟨0, 0, 0⟩) (w.alloc (.cells (ins3 ⟨0, 0, 0⟩).toArray 80)) := hb0
 go_enter Tryz.func131, Tryz.ntmps131
 go_upto_region 1 with fail
 generalize w.alloc (.cells #[.int .i64 0, .int .i64 0, .int .i64 0] 80) = W0 at *
 go_wp2_with fail
 refine (g1 _).mono ?_
 rintro e W' ⟨rfl, hq⟩
 replace hq := hq.symm
 subst hq
 go_wp2_with fail
 refine (g2 _).mono ?_
 rintro e W' ⟨rfl, hq⟩
 replace hq := hq.symm
 subst hq
 go_wp2_with fail
 refine (g3 _).mono ?_
 rintro e W' ⟨rfl, hq⟩
 replace hq := hq.symm
 subst hq
 have hb1 := blkl_alloc W0 (ins3 ⟨op, pp, nn⟩).toArray 80
 have hB1 := alloc_below W0 (.cells (ins3 ⟨op, pp, nn⟩).toArray 80)
 replace hb1 : BlkL W0.heap.size (ins3 ⟨op, pp, nn⟩) (W0.alloc (.cells (ins3 ⟨op, pp, nn⟩).toArray 80)) := hb1
 have hb01 := stab_blk _ _ _ _ hb0 hB1
 replace hB1 := Below.then hB0 hB1
 go_upto_region 2 with fail
 generalize W0.alloc (.cells #[.int .i64 op, .int .i64 pp, .int .i64 nn] 80) = W1 at *
 generalize W0.heap.size = g at *
 have hr1 := hb1.range
 go_wp2_with (first | (refine wpList_load_row rfl _ rfl g rfl (ins3 ⟨op, pp, nn⟩) hr1 hund rfl hsz ?_) | fail)
 refine (kc W1).mono ?_
 rintro e W2 ⟨rfl, hB2⟩
 have hb2 := stab_blk _ _ _ _ hb1 hB2
 have hb02 := stab_blk _ _ _ _ hb01 hB2
 replace hB2 := Below.then hB1 hB2
 clear hr1 hb0 hb1 hb01 hB1 hB0 kc g1 g2 g3
 by_cases hE0 : E = 0
 rotate_left
 ·have hn : (E != 0) = true := by simpa using hE0
  have hGE : Aside (G = E ∧ J = ⟨0, 0, 0⟩) := by
   have e1 := hE.out
   have e2 := hDE.out
   have e3 := hDI.out
   have : G = E := by
    rw [e1] at hE0 ⊢
    rw [e2]
    split
    ·rfl
    ·split
     ·rfl
     ·rename_i c1 c2
      rw [if_neg c1, if_neg c2] at hE0
      exact absurd rfl hE0
   refine ⟨this, ?_⟩
   rw [e3, if_neg (by rw [this]; exact hE0)]
  obtain ⟨W3, hW3, hth3, hb3, hk3⟩ := put_box hb02 ⟨0, 0, 0⟩
  have hB3 := hk3 _ _ (Nat.le_refl _) hB2
  have hr3 := hb3.range
  clear hE0 hk3
  go_wp2_with (first | (refine wpList_store_row rfl _ _ rfl w.heap.size rfl (ins3 ⟨0, 0, 0⟩) rfl hth3 hsz (ins3_one _) hW3 ?_) | fail)
  refine bodyPost_ret (v := .tuple #[.agg (ins3 ⟨0, 0, 0⟩).toArray, .int .i64 E]) (results_row2 rfl _ _ w.heap.size rfl (.int .i64 E) rfl (ins3 ⟨0, 0, 0⟩) hr3 hund rfl hsz) rfl ?_
  exact ⟨by rw [hGE.out.1, hGE.out.2], hB3⟩
 subst hE0
 have hcc : ¬ 22 < op ∧ ¬ 3 < pp := by
  have e1 := hE.out
  constructor
  ·intro c
   rw [if_pos c] at e1
   exact absurd e1 (by decide)
  ·intro c
   by_cases c1 : 22 < op
   ·rw [if_pos c1] at e1
    exact absurd e1 (by decide)
   ·rw [if_neg c1, if_pos c] at e1
    exact absurd e1 (by decide)
 have hG : Aside (G = if mid ≠ 0 then 11 else 0) := by
  show _ = _
  rw [hDE.out, if_neg hcc.1, if_neg hcc.2]
 clear hcc hDE hE
 go_wp2_with fail
 refine (g4 W2).mono ?_
 rintro e W' ⟨rfl, hq⟩
 replace hq := hq.symm
 subst hq
 clear g4
 by_cases hm : mid = 0
 rotate_left
 ·have hGE : Aside (G = 11 ∧ J = ⟨0, 0, 0⟩) := by
    have e1 := hG.out
    rw [if_pos hm] at e1
    refine ⟨e1, ?_⟩
    rw [hDI.out, if_neg (by rw [e1]; decide)]
  have hn : (mid != 0) = true := by simpa using hm
  clear hm
  obtain ⟨W3, hW3, hth3, hb3, hk3⟩ := put_box hb02 ⟨0, 0, 0⟩
  have hB3 := hk3 _ _ (Nat.le_refl _) hB2
  have hr3 := hb3.range
  clear hk3
  go_wp2_with (first | (refine wpList_store_row rfl _ _ rfl w.heap.size rfl (ins3 ⟨0, 0, 0⟩) rfl hth3 hsz (ins3_one _) hW3 ?_) | fail)
  refine bodyPost_ret (v := .tuple #[.agg (ins3 ⟨0, 0, 0⟩).toArray, .int .i64 11]) (results_row2 rfl _ _ w.heap.size rfl (.int .i64 11) rfl (ins3 ⟨0, 0, 0⟩) hr3 hund rfl hsz) rfl ?_
  exact ⟨by rw [hGE.out.1, hGE.out.2], hB3⟩
 subst hm
 have hGE : Aside (G = 0 ∧ J = ⟨op, pp, nn⟩) := by
  have e1 : G = 0 := by rw [hG.out, if_neg (by simp)]
  exact ⟨e1, by rw [hDI.out, if_pos e1]⟩
 have hr2 := hb2.range
 obtain ⟨W3, hW3, hth3, hb3, hk3⟩ := put_box hb02 ⟨op, pp, nn⟩
 have hB3 := hk3 _ _ (Nat.le_refl _) hB2
 have hr3 := hb3.range
 clear hk3
 go_wp2_with (first | (refine wpList_load_row rfl _ rfl g rfl (ins3 ⟨op, pp, nn⟩) hr2 hund rfl hsz ?_) | (refine wpList_store_row rfl _ _ rfl w.heap.size rfl (ins3 ⟨op, pp, nn⟩) rfl hth3 hsz (ins3_one _) hW3 ?_) | fail)
 refine bodyPost_ret (v := .tuple #[.agg (ins3 ⟨op, pp, nn⟩).toArray, .int .i64 0]) (results_row2 rfl _ _ w.heap.size rfl (.int .i64 0) rfl (ins3 ⟨op, pp, nn⟩) hr3 hund rfl hsz) rfl ?_
 exact ⟨by rw [hGE.out.1, hGE.out.2], hB3⟩
set_option maxRecDepth 8000 in
set_option maxHeartbeats 4000000 in
theorem idecp_any (x : Int) (hx : fit64 x) (w : World) : Calls Tryz.prog 158 #[.int .i64 x] w fun e w' => e = .returned (wPtr x).v ∧ Below w.heap.size w w' := by
 have hund := Tryz.underlying41
 have hsz : (Tryz.prog.info? 41).map (·.size) = some 3 := by kernel_rfl
 have g1 := get32_16 x
 have g2 := get0_32 x
 have g3 := get48_3 x
 have hP : wPtr x = ⟨wMid x, wLow x, u64 x / 281474976710656 % 8⟩ := rfl
 generalize wMid x = mid at *
 generalize wLow x = low at *
 generalize u64 x / 281474976710656 % 8 = rr at *
 rw [hP]
 clear hP
 go_enter Tryz.func158, Tryz.ntmps158
 go_wp2_with fail
 refine (g1 _).mono ?_
 rintro e W' ⟨rfl, hq⟩
 replace hq := hq.symm
 subst hq
 go_wp2_with fail
 refine (g2 _).mono ?_
 rintro e W' ⟨rfl, hq⟩
 replace hq := hq.symm
 subst hq
 go_wp2_with fail
 refine (g3 _).mono ?_
 rintro e W' ⟨rfl, hq⟩
 replace hq := hq.symm
 subst hq
 go_wp2_with fail
 refine bodyPost_ret (v := .agg #[.int .i64 mid, .int .i64 low, .int .i64 rr]) (by simp [results, Tryz.results158, go_sem]) rfl ?_
 exact ⟨rfl, alloc_below _ _⟩
end Go.Proofs.YtidihdiffiffmaaGreatDoor
namespace Go.Proofs.YtidihdiffiffmaaGreatDoor
open Go.RowKit
set_option maxRecDepth 8000
set_option linter.unusedSimpArgs false
set_option linter.unusedVariables false
def ftG (g : Sg) (c : Cp) : Int := if g.is = false then 35 else if hasM g.md 4 = false ∨ mayX g.rg c.ring = false then 33 else if ¬ inG g c.off then 35 else if decE (wAt g c.off) ≠ 0 then 36 else 0
def FtP (bx : Nat) (c : Cp) (v : Value) (r : List Value) (g : Sg) (E : Int) (w : World) (e : Ending) (w' : World) : Prop :=
 (E ≠ 0 ∧ e = .panicked (thr E) ∧ Below w.heap.size w w') ∨ (E = 0 ∧ e = .returned (.agg (ins3 (decI (wAt g c.off))).toArray) ∧ XAt bx { c with off := c.off + 1 } v r w' ∧ Sole bx w w')
theorem needB_ok (e : Int) (w : World) : Calls Tryz.prog 128 #[.bool true, .int .i64 e] w fun r w' => r = .returned (.tuple #[]) ∧ Below w.heap.size w w' := (need_ok e w).mono fun r w' h => ⟨h.1, by rw [h.2]; exact Below.refl _ _⟩
theorem needB_no (e : Int) (w : World) : Calls Tryz.prog 128 #[.bool false, .int .i64 e] w fun r w' => r = .panicked (thr e) ∧ Below w.heap.size w w' := (need_no e w).mono fun r w' h => ⟨h.1, by rw [h.2]; exact Below.refl _ _⟩
structure SF (bx bg br : Nat) (c : Cp) (v : Value) (r G : List Value) (W : World) : Prop where
 x : XAt bx c v r W
 g : BlkL bg G W
 r : BlkL br (ins3 ⟨0, 0, 0⟩) W
theorem SF.keep {bx bg br : Nat} {c : Cp} {v : Value} {r G : List Value} {W W' : World} (h : SF bx bg br c v r G W) (hb : Below W.heap.size W W') : SF bx bg br c v r G W' := ⟨h.x.keep hb, stab_blk _ _ _ _ h.g hb, stab_blk _ _ _ _ h.r hb⟩
set_option maxRecDepth 8000 in
set_option maxHeartbeats 4000000 in
theorem cfetch_any (bm bx : Nat) (a : Option Addr) (cap : Nat) (m : List PG) (hm : MG m) (c : Cp) (v : Value) (r : List Value) (g : Sg) (hg : kn (m.map (·.g)) c.seg = g) (E : Int) (hE : ftG g c = E) (w : World) (hM : MAt bm a cap m w) (hX : XAt bx c v (memI bm :: r) w) :
    Calls Tryz.prog 93 #[.pointer (some ⟨bx, 0, none⟩)] w (FtP bx c v (memI bm :: r) g E w) := by
 have hundC := Tryz.underlying147
 have hszC : (Tryz.prog.info? 147).map (·.size) = some 6 := by kernel_rfl
 have hundR := Tryz.underlying33
 have hszR : (Tryz.prog.info? 33).map (·.size) = some 4 := by kernel_rfl
 have hundI := Tryz.underlying80
 have hszI : (Tryz.prog.info? 80).map (·.size) = some 3 := by kernel_rfl
 have hr0 := blkl_alloc w (ins3 ⟨0, 0, 0⟩).toArray 80
 have hB0 := alloc_below w (.cells (ins3 ⟨0, 0, 0⟩).toArray 80)
 have hX1 := hX.keep hB0
 have hM1 := hM.below hB0
 have hbx := hX.lt
 have hgok : g.Ok := by rw [← hg]; exact kn_ok (fun g hg => by obtain ⟨x, hx, rfl⟩ := List.mem_map.1 hg; exact hm.ok x hx) _
 replace hr0 : BlkL w.heap.size (ins3 ⟨0, 0, 0⟩) (w.alloc (.cells #[.int .i64 0, .int .i64 0, .int .i64 0] 80)) := hr0
 replace hX1 : XAt bx c v (memI bm :: r) (w.alloc (.cells #[.int .i64 0, .int .i64 0, .int .i64 0] 80)) := hX1
 replace hM1 : MAt bm a cap m (w.alloc (.cells #[.int .i64 0, .int .i64 0, .int .i64 0] 80)) := hM1
 replace hB0 : Below w.heap.size w (w.alloc (.cells #[.int .i64 0, .int .i64 0, .int .i64 0] 80)) := hB0
 clear hX hM
 have kn0 := fun (W : World) h1 h2 => cseg_none bm bx a cap m hm c v r c.seg W h1 h2
 have kn1 := fun (W : World) h1 h2 => cseg_some bm bx a cap m hm c v r c.seg W h1 h2
 rw [hg] at kn0 kn1
 by_cases c1 : g.is = false
 ·have e35 : E = 35 := by rw [← hE, ftG, if_pos c1]
  subst e35
  replace hE : Aside (ftG g c = 35) := hE
  clear kn1 hg hr0
  go_enter Tryz.func93, Tryz.ntmps93
  go_upto_region 1 with fail
  generalize w.alloc (.cells #[.int .i64 0, .int .i64 0, .int .i64 0] 80) = W0 at *
  have z0 := hX1.seg
  go_wp2_with fail
  refine (kn0 W0 hM1 hX1 c1).mono ?_
  rintro e W1 ⟨rfl, hb⟩
  go_wp2_with fail
  exact diedC (.inl ⟨by decide, rfl, Below.then hB0 hb⟩)
 have c1' : g.is = true := by simpa using c1
 replace hE : Aside (ftG g c = E) := hE
 clear kn0 hg
 go_enter Tryz.func93, Tryz.ntmps93
 go_upto_region 1 with fail
 generalize w.alloc (.cells #[.int .i64 0, .int .i64 0, .int .i64 0] 80) = W0 at *
 have z0 := hX1.seg
 go_wp2_with fail
 refine (kn1 W0 hM1 hX1 c1').mono ?_
 rintro e W1 ⟨u, rfl, ho, hb⟩
 obtain ⟨W2, hW2, hth2, hg2, hB2⟩ := new_sg W1 g u
 obtain ⟨ua, uc, hu, -, -, hrow⟩ := ho.slice wd_okC.len
 have hX2 := (hX1.keep hb).keep hB2
 have hr2 := stab_blk _ _ _ _ (stab_blk _ _ _ _ hr0 hb) hB2
 have hBB := Below.then (Below.then hB0 hb) hB2
 have hrow2 := hrow.below wd_okC.len hB2
 have hl1 := hr0.2
 have hl2 := hb.size
 subst hu
 have hone := sg6_one g ua g.ws.length uc
 have ka := fun (W : World) => allows_any g (.slice ua g.ws.length uc) 4 W
 have kw0 := fun (W : World) h => cword_no g ua uc c.off W h
 have kw1 := fun (W : World) h1 h2 => cword_ok g ua uc c.off W h1 h2
 obtain ⟨X, hXe⟩ : ∃ X, sg6 g (.slice ua g.ws.length uc) = X := ⟨_, rfl⟩
 have hl : X.length = 6 := by rw [← hXe]; rfl
 have hszX : (Tryz.prog.info? 147).map (·.size) = some X.length := by rw [hl]; exact hszC
 have hfr : ∀ W b, BlkL b X W → W.rangeAt b 2 (rg4 g.rg) := fun W b h => by rw [← hXe] at h; exact fld_rg h
 simp only [hXe] at hW2 hth2 hg2 hone ka kw0 kw1
 have hXv : Aside (.agg (sg6 g (.slice ua g.ws.length uc)).toArray = Value.agg X.toArray) := by rw [hXe]; exact rfl
 clear hXe hl ho hrow hb hB2 hr0 hB0 z0 kn1 hM1 hX1 hm
 go_upto_region 2 with (first | (refine wpList_store_row rfl _ _ rfl W1.heap.size rfl X hXv.out hth2 hszX hone hW2 ?_) | fail)
 clear hW2 hth2 hXv
 have hl3 := hg2.2
 have hl4 := hX2.lt
 generalize W1.heap.size = bg at *
 have z2 := hX2.ring
 have hS0 := (Below.refl W2.heap.size W2).drew
 have hb8 : g.rg.v = .agg (rg4 g.rg).toArray := rfl
 have kx := fun (W : World) => mayExec_any g.rg c.ring W
 rw [hb8] at kx
 clear hb8
 cases c2 : hasM g.md 4 with
 | false =>
  have hEE : Aside (E = 33) := by
   show _ = _
   rw [← hE.out, ftG, if_neg c1, if_pos (.inl c2)]
  rw [c2] at ka
  clear hE c2 kw0 kw1
  refine wp_region_held_drew (S := (fun W => Below W2.heap.size W2 W)) (by kernel_rfl) (by exact hS0) ?_
  intro hHeld
  generalize W2.drew = w0 at *
  refine tkB 0 (y := yields_row (by rfl) _ rfl bg rfl X (fun _ q => (stab_blk _ _ _ _ hg2 q).range) hundC rfl hszX) (h := ?_)
  refine tkR (rs := [1]) ?_
  refine tkC (fun K hK => ?_) AllReadyH.nil
  go_simp
  go_at_call 129
  refine (ka w0).mono ?_
  rintro e w1 ⟨rfl, hb⟩
  have hS1 := Below.then hS0 hb
  clear hb
  refine hK.out _ _ (by exact hS1) ?_
  clear hHeld hK
  intro hHeld
  (try simp only [Act.put, zsA, zsB, zsC])
  refine tkA 2 ?_
  refine tkB (v := undef) 3 (y := Or.inr ⟨by rfl, rfl⟩) (h := ?_)
  refine tkB (v := undef) 4 (y := Or.inr ⟨by rfl, rfl⟩) (h := ?_)
  refine tkB (v := undef) 5 (y := Or.inr ⟨by rfl, rfl⟩) (h := ?_)
  refine tkB (v := undef) 6 (y := Or.inr ⟨by rfl, rfl⟩) (h := ?_)
  refine tkB (v := undef) 7 (y := Or.inr ⟨by rfl, rfl⟩) (h := ?_)
  refine tkB (v := undef) 8 (y := Or.inr ⟨by rfl, rfl⟩) (h := ?_)
  refine tkB (v := undef) 9 (y := Or.inr ⟨by rfl, rfl⟩) (h := ?_)
  refine tkB (v := undef) 10 (y := Or.inr ⟨by rfl, rfl⟩) (h := ?_)
  refine tkA 11 ?_
  refine tkR (rs := [12]) ?_
  refine tkC (fun K hK => ?_) AllReadyH.nil
  go_simp
  go_at_call 128
  refine (needB_no 33 w1).mono ?_
  rintro e w2 ⟨rfl, hb⟩
  exact (show _ ∧ _ from ⟨rfl, .inl ⟨by rw [hEE.out]; decide, by rw [hEE.out], Below.then hBB (Below.then hS1 hb)⟩⟩)
 | true =>
 rw [c2] at ka
 cases c3 : mayX g.rg c.ring with
 | false =>
  have hEE : Aside (E = 33) := by
   show _ = _
   rw [← hE.out, ftG, if_neg c1, if_pos (.inr c3)]
  rw [c3] at kx
  clear hE c2 kw0 kw1 c3
  refine wp_region_held_drew (S := (fun W => Below W2.heap.size W2 W)) (by kernel_rfl) (by exact hS0) ?_
  intro hHeld
  generalize W2.drew = w0 at *
  refine tkB 0 (y := yields_row (by rfl) _ rfl bg rfl X (fun _ q => (stab_blk _ _ _ _ hg2 q).range) hundC rfl hszX) (h := ?_)
  refine tkR (rs := [1]) ?_
  refine tkC (fun K hK => ?_) AllReadyH.nil
  go_simp
  go_at_call 129
  refine (ka w0).mono ?_
  rintro e w1 ⟨rfl, hb⟩
  have hS1 := Below.then hS0 hb
  clear hb
  refine hK.out _ _ (by exact hS1) ?_
  clear hHeld hK
  intro hHeld
  (try simp only [Act.put, zsA, zsB, zsC])
  refine tkA 2 ?_
  refine tkA 3 ?_
  refine tkB 4 (y := yieldsIf_load_mid (by rfl) 33 _ rfl bg 2 rfl (rg4 g.rg) _ (fun W q => hfr W bg (stab_blk _ _ _ _ hg2 q)) hundR rfl hszR) (h := ?_)
  refine tkA 5 ?_
  refine tkA 6 ?_
  refine tkA 7 ?_
  refine tkA 8 ?_
  refine tkB 9 (y := yields_cellI (by rfl) _ rfl ⟨bx, 2, none⟩ rfl (.int .i64 c.ring) (fun _ q => (hX2.keep q).ring) intI_load) (h := ?_)
  refine tkR (rs := [10]) ?_
  refine tkC (fun K hK => ?_) AllReadyH.nil
  go_simp
  go_at_call 130
  refine (kx w1).mono ?_
  rintro e w2 ⟨rfl, hb⟩
  have hS2 := Below.then hS1 hb
  clear hb
  refine hK.out _ _ (by exact hS2) ?_
  clear hHeld hK
  intro hHeld
  (try simp only [Act.put, zsA, zsB, zsC])
  refine tkA 11 ?_
  refine tkR (rs := [12]) ?_
  refine tkC (fun K hK => ?_) AllReadyH.nil
  go_simp
  go_at_call 128
  refine (needB_no 33 w2).mono ?_
  rintro e w3 ⟨rfl, hb⟩
  exact (show _ ∧ _ from ⟨rfl, .inl ⟨by rw [hEE.out]; decide, by rw [hEE.out], Below.then hBB (Below.then hS2 hb)⟩⟩)
 | true =>
 rw [c3] at kx
 have hE2 : Aside (E = if ¬ inG g c.off then 35 else if decE (wAt g c.off) ≠ 0 then 36 else 0) := by
  show _ = _
  rw [← hE.out, ftG, if_neg c1, if_neg (by rw [c3, c2]; simp)]
 clear hE c1 c2 c1' c3
 refine wp_region_held_drew (S := (fun W => Below W2.heap.size W2 W)) (by kernel_rfl) (by exact hS0) ?_
 intro hHeld
 generalize W2.drew = w0 at *
 refine tkB 0 (y := yields_row (by rfl) _ rfl bg rfl X (fun _ q => (stab_blk _ _ _ _ hg2 q).range) hundC rfl hszX) (h := ?_)
 refine tkR (rs := [1]) ?_
 refine tkC (fun K hK => ?_) AllReadyH.nil
 go_simp
 go_at_call 129
 refine (ka w0).mono ?_
 rintro e w1 ⟨rfl, hb⟩
 have hS1 := Below.then hS0 hb
 clear hb
 refine hK.out _ _ (by exact hS1) ?_
 clear hHeld hK
 intro hHeld
 (try simp only [Act.put, zsA, zsB, zsC])
 refine tkA 2 ?_
 refine tkA 3 ?_
 refine tkB 4 (y := yieldsIf_load_mid (by rfl) 33 _ rfl bg 2 rfl (rg4 g.rg) _ (fun W q => hfr W bg (stab_blk _ _ _ _ hg2 q)) hundR rfl hszR) (h := ?_)
 refine tkA 5 ?_
 refine tkA 6 ?_
 refine tkA 7 ?_
 refine tkA 8 ?_
 refine tkB 9 (y := yields_cellI (by rfl) _ rfl ⟨bx, 2, none⟩ rfl (.int .i64 c.ring) (fun _ q => (hX2.keep q).ring) intI_load) (h := ?_)
 refine tkR (rs := [10]) ?_
 refine tkC (fun K hK => ?_) AllReadyH.nil
 go_simp
 go_at_call 130
 refine (kx w1).mono ?_
 rintro e w2 ⟨rfl, hb⟩
 have hS2 := Below.then hS1 hb
 clear hb
 refine hK.out _ _ (by exact hS2) ?_
 clear hHeld hK
 intro hHeld
 (try simp only [Act.put, zsA, zsB, zsC])
 refine tkA 11 ?_
 refine tkR (rs := [12]) ?_
 refine tkC (fun K hK => ?_) AllReadyH.nil
 go_simp
 go_at_call 128
 refine (needB_ok 33 w2).mono ?_
 rintro e w3 ⟨rfl, hb⟩
 have hS3 := Below.then hS2 hb
 clear hb
 refine hK.out _ _ (by exact hS3) ?_
 clear hHeld hK
 intro hHeld
 (try simp only [Act.put, zsA, zsB, zsC])
 refine wpAnyH_done (by kernel_rfl) ?_ _
 have hX3 := hX2.keep hS3
 have hr3 := stab_blk _ _ _ _ hr2 hS3
 have hg3 := stab_blk _ _ _ _ hg2 hS3
 have hB3 := Below.then hBB hS3
 have hrow3 := hrow2.below wd_okC.len hS3
 have hl5 := hS3.size
 clear hX2 hr2 hg2 hBB hrow2 hS0 hS1 hS2 hS3 ka kx z2
 go_upto_region 3 with fail
 have hdr := (Below.refl w3.heap.size w3).drew
 have hS : SF bx bg w.heap.size c v (memI bm :: r) X w3.drew := ⟨hX3.keep hdr, stab_blk _ _ _ _ hg3 hdr, stab_blk _ _ _ _ hr3 hdr⟩
 have hB := Below.then hB3 hdr
 have hrow := hrow3.below wd_okC.len hdr
 clear hX3 hr3 hg3 hB3 hrow3 hdr
 by_cases c5 : inG g c.off
 rotate_left
 ·have hEE : Aside (E = 35) := by
    show _ = _
    rw [hE2.out, if_pos c5]
  clear hE2 kw1
  refine wp_region_held_drew (S := (SF bx bg w.heap.size c v (memI bm :: r) X)) (by kernel_rfl) (by exact hS) ?_
  intro hHeld
  generalize w3.drew = w0 at *
  refine tkB 0 (y := yields_row (by rfl) _ rfl bg rfl X (fun _ s => s.g.range) hundC rfl hszX) (h := ?_)
  refine tkA 1 ?_
  refine tkA 2 ?_
  refine tkA 3 ?_
  refine tkA 4 ?_
  refine tkB 5 (y := yields_cellI (by rfl) _ rfl ⟨bx, 1, none⟩ rfl (.int .i64 c.off) (fun _ s => s.x.off) intI_load) (h := ?_)
  refine tkR (rs := [6, 11]) ?_
  refine tkC (fun K hK => ?_) ?_
  ·go_simp
   go_at_call 132
   refine (kw0 w0 c5).mono ?_
   rintro e w1 ⟨rfl, hb⟩
   exact (show _ ∧ _ from ⟨rfl, .inl ⟨by rw [hEE.out]; decide, by rw [hEE.out], Below.then hB hb⟩⟩)
  refine tkC (fun K hK => ?_) AllReadyH.nil
  have hbA := alloc_below w0 (.cells (ins3 ⟨0, 0, 0⟩).toArray 80)
  refine step_allocC (z := #[.int .i64 0, .int .i64 0, .int .i64 0]) rfl rfl (fun _ => rfl) ?_
  (try simp only [Act.put, zsA, zsB, zsC])
  refine hK.out _ _ (hS.keep hbA) ?_
  clear hHeld hK
  intro hHeld
  have hi := blkl_alloc w0 (ins3 ⟨0, 0, 0⟩).toArray 80
  replace hi : BlkL w0.heap.size (ins3 ⟨0, 0, 0⟩) (w0.alloc (.cells #[.int .i64 0, .int .i64 0, .int .i64 0] 80)) := hi
  replace hbA : Below w0.heap.size w0 (w0.alloc (.cells #[.int .i64 0, .int .i64 0, .int .i64 0] 80)) := hbA
  have hgi : w.heap.size ≤ w0.heap.size ∧ bg < w0.heap.size ∧ bx < w0.heap.size ∧ w.heap.size < w0.heap.size := ⟨hB.size, hS.g.2, hS.x.lt, hS.r.2⟩
  replace hS := hS.keep hbA
  replace hB := Below.then hB hbA
  replace hrow := hrow.below wd_okC.len hbA
  clear hbA
  generalize w0.alloc (.cells #[.int .i64 0, .int .i64 0, .int .i64 0] 80) = w1 at *
  generalize w0.heap.size = gi at *
  (try simp only [Act.put, zsA, zsB, zsC])
  refine tkR (rs := [6]) ?_
  refine tkC (fun K hK => ?_) AllReadyH.nil
  go_simp
  go_at_call 132
  refine (kw0 w1 c5).mono ?_
  rintro e w2 ⟨rfl, hb⟩
  exact (show _ ∧ _ from ⟨rfl, .inl ⟨by rw [hEE.out]; decide, by rw [hEE.out], Below.then hB hb⟩⟩)
 have hE3 : Aside (E = if decE (wAt g c.off) ≠ 0 then 36 else 0) := by
  show _ = _
  rw [hE2.out, if_neg (by simpa using c5)]
 have hfit := wAt_fit hgok c.off
 have ho1 : IntKind.i64.wrap (c.off + 1) = c.off + 1 := by
  have h1 := c5.1
  have h2 := c5.2
  have h3 := hgok.len
  rw [IntKind.wrap_i64]; omega
 have kd := fun (W : World) => idecode_any (wAt g c.off) hfit W
 clear hE2 kw0 hgok hfit
 obtain ⟨wd, hwd⟩ : ∃ wd, wAt g c.off = wd := ⟨_, rfl⟩
 rw [hwd] at kw1 kd hE3
 replace hwd : Aside (wAt g c.off = wd) := hwd
 refine wp_region_held_drew (S := (SF bx bg w.heap.size c v (memI bm :: r) X)) (by kernel_rfl) (by exact hS) ?_
 intro hHeld
 generalize w3.drew = w0 at *
 refine tkB 0 (y := yields_row (by rfl) _ rfl bg rfl X (fun _ s => s.g.range) hundC rfl hszX) (h := ?_)
 refine tkA 1 ?_
 refine tkA 2 ?_
 refine tkA 3 ?_
 refine tkA 4 ?_
 refine tkB 5 (y := yields_cellI (by rfl) _ rfl ⟨bx, 1, none⟩ rfl (.int .i64 c.off) (fun _ s => s.x.off) intI_load) (h := ?_)
 refine tkR (rs := [6, 11]) ?_
 refine tkC (fun K hK => ?_) ?_
 ·go_simp
  go_at_call 132
  refine (kw1 w0 c5 hrow).mono ?_
  rintro e w1 ⟨rfl, hb⟩
  replace hS := hS.keep hb
  replace hB := Below.then hB hb
  replace hrow := hrow.below wd_okC.len hb
  clear hb
  refine hK.out _ _ (hS) ?_
  clear hHeld hK
  intro hHeld
  (try simp only [Act.put, zsA, zsB, zsC])
  refine tkR (rs := [7, 11]) ?_
  refine tkC (fun K hK => ?_) ?_
  ·go_simp
   go_at_call 131
   refine (kd w1).mono ?_
   rintro e w2 ⟨rfl, hb⟩
   replace hS := hS.keep hb
   replace hB := Below.then hB hb
   replace hrow := hrow.below wd_okC.len hb
   clear hb
   refine hK.out _ _ (hS) ?_
   clear hHeld hK
   intro hHeld
   (try simp only [Act.put, zsA, zsB, zsC])
   refine tkA 8 ?_
   refine tkA 9 ?_
   refine tkA 10 ?_
   refine tkR (rs := [11]) ?_
   refine tkC (fun K hK => ?_) AllReadyH.nil
   have hbA := alloc_below w2 (.cells (ins3 ⟨0, 0, 0⟩).toArray 80)
   refine step_allocC (z := #[.int .i64 0, .int .i64 0, .int .i64 0]) rfl rfl (fun _ => rfl) ?_
   (try simp only [Act.put, zsA, zsB, zsC])
   refine hK.out _ _ (hS.keep hbA) ?_
   clear hHeld hK
   intro hHeld
   have hi := blkl_alloc w2 (ins3 ⟨0, 0, 0⟩).toArray 80
   replace hi : BlkL w2.heap.size (ins3 ⟨0, 0, 0⟩) (w2.alloc (.cells #[.int .i64 0, .int .i64 0, .int .i64 0] 80)) := hi
   replace hbA : Below w2.heap.size w2 (w2.alloc (.cells #[.int .i64 0, .int .i64 0, .int .i64 0] 80)) := hbA
   have hgi : w.heap.size ≤ w2.heap.size ∧ bg < w2.heap.size ∧ bx < w2.heap.size ∧ w.heap.size < w2.heap.size := ⟨hB.size, hS.g.2, hS.x.lt, hS.r.2⟩
   replace hS := hS.keep hbA
   replace hB := Below.then hB hbA
   replace hrow := hrow.below wd_okC.len hbA
   clear hbA
   generalize w2.alloc (.cells #[.int .i64 0, .int .i64 0, .int .i64 0] 80) = w3 at *
   generalize w2.heap.size = gi at *
   (try simp only [Act.put, zsA, zsB, zsC])
   refine tkR (rs := [12]) ?_
   refine tkC (fun K hK => ?_) AllReadyH.nil
   obtain ⟨W7, hW7, hth7, hb7, hk7⟩ := put_box hi (decI wd)
   have hB7 := hk7 _ _ hgi.1 hB
   have hfar : ∀ j, j ≠ gi → W7.heap[j]? = w3.heap[j]? := fun j hj => by rw [← hW7]; exact heap_setCells_other hj _ _ _
   have hs7 : w3.heap.size ≤ W7.heap.size := (hk7 0 w3 (Nat.zero_le _) (Below.refl _ _)).size
   have hS7 : SF bx bg w.heap.size c v (memI bm :: r) X W7 := ⟨hS.x.same (hfar _ (by omega)) hs7, ⟨hS.g.1.same (hfar _ (by omega)), Nat.lt_of_lt_of_le hS.g.2 hs7⟩, ⟨hS.r.1.same (hfar _ (by omega)), Nat.lt_of_lt_of_le hS.r.2 hs7⟩⟩
   refine step_store_rowC rfl _ _ rfl gi rfl (ins3 (decI wd)) rfl hth7 hszI (ins3_one _) hW7 ?_
   (try simp only [Act.put, zsA, zsB, zsC])
   refine hK.out _ _ (hS7) ?_
   clear hHeld hK
   intro hHeld
   clear hS hB hrow hi hk7 hfar hs7 kw1 kd hW7 hth7
   have hD : Aside (wAt g c.off = wd) := hwd
   (try simp only [Act.put, zsA, zsB, zsC])
   refine tkA 13 ?_
   refine wpAnyH_done (by kernel_rfl) ?_ _
   go_upto_region 4 with fail
   by_cases c6 : decE wd = 0
   rotate_left
   ·have hEE : Aside (E = 36) := by
      show _ = _
      rw [hE3.out, if_pos c6]
    have q : (decE wd == 0) = false := by simpa using c6
    generalize decE wd = ee at *
    clear hE3 c6
    go_wp2_with fail
    refine (need_no 36 W7).mono ?_
    rintro e W8 ⟨rfl, rfl⟩
    go_wp2_with fail
    exact diedC (.inl ⟨by rw [hEE.out]; decide, by rw [hEE.out], hB7⟩)
   have hEE : Aside (E = 0) := by
    show _ = _
    rw [hE3.out, if_neg (by simpa using c6)]
   have q : (decE wd == 0) = true := by simpa using c6
   generalize decE wd = ee at *
   clear hE3 c6
   go_wp2_with fail
   refine (need_ok 36 W7).mono ?_
   rintro e W8 ⟨rfl, rfl⟩
   go_upto_region 5 with fail
   have y1 := hS7.x.off
   have yf := hS7.x.free (i := 1) (by decide)
   have hX8 := hS7.x.setOff (c.off + 1)
   have hi8 := far_blk hb7 (show bx ≠ gi by omega) 1 (.int .i64 (c.off + 1))
   have hr8 := far_blk hS7.r (show bx ≠ w.heap.size by omega) 1 (.int .i64 (c.off + 1))
   have hO8 := (Sole.of (bx := bx) hB7).set 1 (.int .i64 (c.off + 1))
   clear hS7 hb7
   go_upto_region 6 with fail
   generalize W8.setCell ⟨bx, 1, none⟩ (.int .i64 (c.off + 1)) = W9 at *
   obtain ⟨D, hDD⟩ : ∃ D, decI wd = D := ⟨_, rfl⟩
   rw [hDD] at hi8 ⊢
   replace hDD : Aside (decI wd = D) := hDD
   obtain ⟨WA, hWA, hthA, hbA, hkA⟩ := put_box hr8 D
   have hrA := hbA.range
   have hri := hi8.range
   have hXA : XAt bx { c with off := c.off + 1 } v (memI bm :: r) WA := hX8.same (by rw [← hWA]; exact heap_setCells_other (by omega) _ _ _) (hkA 0 W9 (Nat.zero_le _) (Below.refl _ _)).size
   have hOA : Sole bx w WA := by rw [← hWA]; exact hO8.cells (.inr (Nat.le_refl _)) _ _
   clear hX8 hr8 hbA hkA hO8 y1 yf
   go_wp2_with (first | (refine wpList_load_row rfl _ rfl gi rfl (ins3 D) hri hundI rfl hszI ?_) | (refine wpList_store_row rfl _ _ rfl w.heap.size rfl (ins3 D) rfl hthA hszI (ins3_one _) hWA ?_) | fail)
   refine bodyPost_ret (v := .agg (ins3 D).toArray) (results_row1 rfl _ _ w.heap.size rfl (ins3 D) hrA hundI rfl hszI) rfl ?_
   exact .inr ⟨hEE.out, by rw [hD.out, hDD.out], hXA, hOA⟩
  refine tkC (fun K hK => ?_) AllReadyH.nil
  have hbA := alloc_below w1 (.cells (ins3 ⟨0, 0, 0⟩).toArray 80)
  refine step_allocC (z := #[.int .i64 0, .int .i64 0, .int .i64 0]) rfl rfl (fun _ => rfl) ?_
  (try simp only [Act.put, zsA, zsB, zsC])
  refine hK.out _ _ (hS.keep hbA) ?_
  clear hHeld hK
  intro hHeld
  have hi := blkl_alloc w1 (ins3 ⟨0, 0, 0⟩).toArray 80
  replace hi : BlkL w1.heap.size (ins3 ⟨0, 0, 0⟩) (w1.alloc (.cells #[.int .i64 0, .int .i64 0, .int .i64 0] 80)) := hi
  replace hbA : Below w1.heap.size w1 (w1.alloc (.cells #[.int .i64 0, .int .i64 0, .int .i64 0] 80)) := hbA
  have hgi : w.heap.size ≤ w1.heap.size ∧ bg < w1.heap.size ∧ bx < w1.heap.size ∧ w.heap.size < w1.heap.size := ⟨hB.size, hS.g.2, hS.x.lt, hS.r.2⟩
  replace hS := hS.keep hbA
  replace hB := Below.then hB hbA
  replace hrow := hrow.below wd_okC.len hbA
  clear hbA
  generalize w1.alloc (.cells #[.int .i64 0, .int .i64 0, .int .i64 0] 80) = w2 at *
  generalize w1.heap.size = gi at *
  (try simp only [Act.put, zsA, zsB, zsC])
  refine tkR (rs := [7]) ?_
  refine tkC (fun K hK => ?_) AllReadyH.nil
  go_simp
  go_at_call 131
  refine (kd w2).mono ?_
  rintro e w3 ⟨rfl, hb⟩
  replace hS := hS.keep hb
  replace hB := Below.then hB hb
  replace hrow := hrow.below wd_okC.len hb
  replace hi := stab_blk _ _ _ _ hi hb
  clear hb
  refine hK.out _ _ (hS) ?_
  clear hHeld hK
  intro hHeld
  (try simp only [Act.put, zsA, zsB, zsC])
  refine tkA 8 ?_
  refine tkA 9 ?_
  refine tkA 10 ?_
  refine tkR (rs := [12]) ?_
  refine tkC (fun K hK => ?_) AllReadyH.nil
  obtain ⟨W7, hW7, hth7, hb7, hk7⟩ := put_box hi (decI wd)
  have hB7 := hk7 _ _ hgi.1 hB
  have hfar : ∀ j, j ≠ gi → W7.heap[j]? = w3.heap[j]? := fun j hj => by rw [← hW7]; exact heap_setCells_other hj _ _ _
  have hs7 : w3.heap.size ≤ W7.heap.size := (hk7 0 w3 (Nat.zero_le _) (Below.refl _ _)).size
  have hS7 : SF bx bg w.heap.size c v (memI bm :: r) X W7 := ⟨hS.x.same (hfar _ (by omega)) hs7, ⟨hS.g.1.same (hfar _ (by omega)), Nat.lt_of_lt_of_le hS.g.2 hs7⟩, ⟨hS.r.1.same (hfar _ (by omega)), Nat.lt_of_lt_of_le hS.r.2 hs7⟩⟩
  refine step_store_rowC rfl _ _ rfl gi rfl (ins3 (decI wd)) rfl hth7 hszI (ins3_one _) hW7 ?_
  (try simp only [Act.put, zsA, zsB, zsC])
  refine hK.out _ _ (hS7) ?_
  clear hHeld hK
  intro hHeld
  clear hS hB hrow hi hk7 hfar hs7 kw1 kd hW7 hth7
  have hD : Aside (wAt g c.off = wd) := hwd
  (try simp only [Act.put, zsA, zsB, zsC])
  refine tkA 13 ?_
  refine wpAnyH_done (by kernel_rfl) ?_ _
  go_upto_region 4 with fail
  by_cases c6 : decE wd = 0
  rotate_left
  ·have hEE : Aside (E = 36) := by
     show _ = _
     rw [hE3.out, if_pos c6]
   have q : (decE wd == 0) = false := by simpa using c6
   generalize decE wd = ee at *
   clear hE3 c6
   go_wp2_with fail
   refine (need_no 36 W7).mono ?_
   rintro e W8 ⟨rfl, rfl⟩
   go_wp2_with fail
   exact diedC (.inl ⟨by rw [hEE.out]; decide, by rw [hEE.out], hB7⟩)
  have hEE : Aside (E = 0) := by
   show _ = _
   rw [hE3.out, if_neg (by simpa using c6)]
  have q : (decE wd == 0) = true := by simpa using c6
  generalize decE wd = ee at *
  clear hE3 c6
  go_wp2_with fail
  refine (need_ok 36 W7).mono ?_
  rintro e W8 ⟨rfl, rfl⟩
  go_upto_region 5 with fail
  have y1 := hS7.x.off
  have yf := hS7.x.free (i := 1) (by decide)
  have hX8 := hS7.x.setOff (c.off + 1)
  have hi8 := far_blk hb7 (show bx ≠ gi by omega) 1 (.int .i64 (c.off + 1))
  have hr8 := far_blk hS7.r (show bx ≠ w.heap.size by omega) 1 (.int .i64 (c.off + 1))
  have hO8 := (Sole.of (bx := bx) hB7).set 1 (.int .i64 (c.off + 1))
  clear hS7 hb7
  go_upto_region 6 with fail
  generalize W8.setCell ⟨bx, 1, none⟩ (.int .i64 (c.off + 1)) = W9 at *
  obtain ⟨D, hDD⟩ : ∃ D, decI wd = D := ⟨_, rfl⟩
  rw [hDD] at hi8 ⊢
  replace hDD : Aside (decI wd = D) := hDD
  obtain ⟨WA, hWA, hthA, hbA, hkA⟩ := put_box hr8 D
  have hrA := hbA.range
  have hri := hi8.range
  have hXA : XAt bx { c with off := c.off + 1 } v (memI bm :: r) WA := hX8.same (by rw [← hWA]; exact heap_setCells_other (by omega) _ _ _) (hkA 0 W9 (Nat.zero_le _) (Below.refl _ _)).size
  have hOA : Sole bx w WA := by rw [← hWA]; exact hO8.cells (.inr (Nat.le_refl _)) _ _
  clear hX8 hr8 hbA hkA hO8 y1 yf
  go_wp2_with (first | (refine wpList_load_row rfl _ rfl gi rfl (ins3 D) hri hundI rfl hszI ?_) | (refine wpList_store_row rfl _ _ rfl w.heap.size rfl (ins3 D) rfl hthA hszI (ins3_one _) hWA ?_) | fail)
  refine bodyPost_ret (v := .agg (ins3 D).toArray) (results_row1 rfl _ _ w.heap.size rfl (ins3 D) hrA hundI rfl hszI) rfl ?_
  exact .inr ⟨hEE.out, by rw [hD.out, hDD.out], hXA, hOA⟩
 refine tkC (fun K hK => ?_) AllReadyH.nil
 have hbA := alloc_below w0 (.cells (ins3 ⟨0, 0, 0⟩).toArray 80)
 refine step_allocC (z := #[.int .i64 0, .int .i64 0, .int .i64 0]) rfl rfl (fun _ => rfl) ?_
 (try simp only [Act.put, zsA, zsB, zsC])
 refine hK.out _ _ (hS.keep hbA) ?_
 clear hHeld hK
 intro hHeld
 have hi := blkl_alloc w0 (ins3 ⟨0, 0, 0⟩).toArray 80
 replace hi : BlkL w0.heap.size (ins3 ⟨0, 0, 0⟩) (w0.alloc (.cells #[.int .i64 0, .int .i64 0, .int .i64 0] 80)) := hi
 replace hbA : Below w0.heap.size w0 (w0.alloc (.cells #[.int .i64 0, .int .i64 0, .int .i64 0] 80)) := hbA
 have hgi : w.heap.size ≤ w0.heap.size ∧ bg < w0.heap.size ∧ bx < w0.heap.size ∧ w.heap.size < w0.heap.size := ⟨hB.size, hS.g.2, hS.x.lt, hS.r.2⟩
 replace hS := hS.keep hbA
 replace hB := Below.then hB hbA
 replace hrow := hrow.below wd_okC.len hbA
 clear hbA
 generalize w0.alloc (.cells #[.int .i64 0, .int .i64 0, .int .i64 0] 80) = w1 at *
 generalize w0.heap.size = gi at *
 (try simp only [Act.put, zsA, zsB, zsC])
 refine tkR (rs := [6]) ?_
 refine tkC (fun K hK => ?_) AllReadyH.nil
 go_simp
 go_at_call 132
 refine (kw1 w1 c5 hrow).mono ?_
 rintro e w2 ⟨rfl, hb⟩
 replace hS := hS.keep hb
 replace hB := Below.then hB hb
 replace hrow := hrow.below wd_okC.len hb
 replace hi := stab_blk _ _ _ _ hi hb
 clear hb
 refine hK.out _ _ (hS) ?_
 clear hHeld hK
 intro hHeld
 (try simp only [Act.put, zsA, zsB, zsC])
 refine tkR (rs := [7]) ?_
 refine tkC (fun K hK => ?_) AllReadyH.nil
 go_simp
 go_at_call 131
 refine (kd w2).mono ?_
 rintro e w3 ⟨rfl, hb⟩
 replace hS := hS.keep hb
 replace hB := Below.then hB hb
 replace hrow := hrow.below wd_okC.len hb
 replace hi := stab_blk _ _ _ _ hi hb
 clear hb
 refine hK.out _ _ (hS) ?_
 clear hHeld hK
 intro hHeld
 (try simp only [Act.put, zsA, zsB, zsC])
 refine tkA 8 ?_
 refine tkA 9 ?_
 refine tkA 10 ?_
 refine tkR (rs := [12]) ?_
 refine tkC (fun K hK => ?_) AllReadyH.nil
 obtain ⟨W7, hW7, hth7, hb7, hk7⟩ := put_box hi (decI wd)
 have hB7 := hk7 _ _ hgi.1 hB
 have hfar : ∀ j, j ≠ gi → W7.heap[j]? = w3.heap[j]? := fun j hj => by rw [← hW7]; exact heap_setCells_other hj _ _ _
 have hs7 : w3.heap.size ≤ W7.heap.size := (hk7 0 w3 (Nat.zero_le _) (Below.refl _ _)).size
 have hS7 : SF bx bg w.heap.size c v (memI bm :: r) X W7 := ⟨hS.x.same (hfar _ (by omega)) hs7, ⟨hS.g.1.same (hfar _ (by omega)), Nat.lt_of_lt_of_le hS.g.2 hs7⟩, ⟨hS.r.1.same (hfar _ (by omega)), Nat.lt_of_lt_of_le hS.r.2 hs7⟩⟩
 refine step_store_rowC rfl _ _ rfl gi rfl (ins3 (decI wd)) rfl hth7 hszI (ins3_one _) hW7 ?_
 (try simp only [Act.put, zsA, zsB, zsC])
 refine hK.out _ _ (hS7) ?_
 clear hHeld hK
 intro hHeld
 clear hS hB hrow hi hk7 hfar hs7 kw1 kd hW7 hth7
 have hD : Aside (wAt g c.off = wd) := hwd
 (try simp only [Act.put, zsA, zsB, zsC])
 refine tkA 13 ?_
 refine wpAnyH_done (by kernel_rfl) ?_ _
 go_upto_region 4 with fail
 by_cases c6 : decE wd = 0
 rotate_left
 ·have hEE : Aside (E = 36) := by
    show _ = _
    rw [hE3.out, if_pos c6]
  have q : (decE wd == 0) = false := by simpa using c6
  generalize decE wd = ee at *
  clear hE3 c6
  go_wp2_with fail
  refine (need_no 36 W7).mono ?_
  rintro e W8 ⟨rfl, rfl⟩
  go_wp2_with fail
  exact diedC (.inl ⟨by rw [hEE.out]; decide, by rw [hEE.out], hB7⟩)
 have hEE : Aside (E = 0) := by
  show _ = _
  rw [hE3.out, if_neg (by simpa using c6)]
 have q : (decE wd == 0) = true := by simpa using c6
 generalize decE wd = ee at *
 clear hE3 c6
 go_wp2_with fail
 refine (need_ok 36 W7).mono ?_
 rintro e W8 ⟨rfl, rfl⟩
 go_upto_region 5 with fail
 have y1 := hS7.x.off
 have yf := hS7.x.free (i := 1) (by decide)
 have hX8 := hS7.x.setOff (c.off + 1)
 have hi8 := far_blk hb7 (show bx ≠ gi by omega) 1 (.int .i64 (c.off + 1))
 have hr8 := far_blk hS7.r (show bx ≠ w.heap.size by omega) 1 (.int .i64 (c.off + 1))
 have hO8 := (Sole.of (bx := bx) hB7).set 1 (.int .i64 (c.off + 1))
 clear hS7 hb7
 go_upto_region 6 with fail
 generalize W8.setCell ⟨bx, 1, none⟩ (.int .i64 (c.off + 1)) = W9 at *
 obtain ⟨D, hDD⟩ : ∃ D, decI wd = D := ⟨_, rfl⟩
 rw [hDD] at hi8 ⊢
 replace hDD : Aside (decI wd = D) := hDD
 obtain ⟨WA, hWA, hthA, hbA, hkA⟩ := put_box hr8 D
 have hrA := hbA.range
 have hri := hi8.range
 have hXA : XAt bx { c with off := c.off + 1 } v (memI bm :: r) WA := hX8.same (by rw [← hWA]; exact heap_setCells_other (by omega) _ _ _) (hkA 0 W9 (Nat.zero_le _) (Below.refl _ _)).size
 have hOA : Sole bx w WA := by rw [← hWA]; exact hO8.cells (.inr (Nat.le_refl _)) _ _
 clear hX8 hr8 hbA hkA hO8 y1 yf
 go_wp2_with (first | (refine wpList_load_row rfl _ rfl gi rfl (ins3 D) hri hundI rfl hszI ?_) | (refine wpList_store_row rfl _ _ rfl w.heap.size rfl (ins3 D) rfl hthA hszI (ins3_one _) hWA ?_) | fail)
 refine bodyPost_ret (v := .agg (ins3 D).toArray) (results_row1 rfl _ _ w.heap.size rfl (ins3 D) hrA hundI rfl hszI) rfl ?_
 exact .inr ⟨hEE.out, by rw [hD.out, hDD.out], hXA, hOA⟩
end Go.Proofs.YtidihdiffiffmaaGreatDoor
