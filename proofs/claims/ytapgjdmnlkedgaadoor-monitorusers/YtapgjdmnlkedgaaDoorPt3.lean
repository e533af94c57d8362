/-
  PART 3 of what the claims of this seat lean on: TreeOwn TreeFind MonFns MonFns2 TreePut TreeFirstRef MonBase Opens LabOpen NodeOpenD TreeOpen TreeUnder.
-/
import Derived.Deep.RegionHeld
import Derived.Deep.CutBlock
import Derived.Laws.AppendOwnNone
import Derived.Test.YtapgjdmnlkedgaaDoorRows
import Derived.ProofKit
import Derived.OpenShut
import Derived.ChangeSame
import Derived.ChangeSlices
import Derived.SizedLaws
import Derived.Deep.Slices
import Derived.Deep.Strs
import Derived.Test.YtapgjdmnlkedgaaDoorPt1
import Derived.Test.YtapgjdmnlkedgaaDoorPt2
/-! NODES OF ONE'S OWN: package tree's copied, own, Find and row, as they landed. -/
namespace Go.Proofs.YtapgjdmnlkedgaaDoor
open Go.RowKit
set_option maxRecDepth 8000
set_option linter.unusedSimpArgs false
set_option linter.unusedVariables false

def wcl (x : Int) : List Value := [.int .i64 x]
theorem wd_okT : ElemOk 2 34 1 wcl :=
  ⟨Tryd.underlying34, by
    obtain ⟨i, h1, h2, h3, h4⟩ := info_of (e := 2) (z := .int .i64 0) (sz := 1) (b := 8) (by kernel_rfl)
    exact ⟨i, _, _, h1, h2, h3, h4, rfl, by omega⟩, by omega, fun _ => rfl, fun x u hu => by simp [wcl] at hu; subst hu; rfl⟩
theorem grs_row {W : World} {a : Option Addr} {l : List Gr} (h : GrsAt W a l) : RowAt 2 gcl W a l := fun j g hg => by
  obtain ⟨y, hy, h1, h2⟩ := h j g hg
  refine ⟨y, hy, fun i hi => ?_⟩
  match i, hi with
  | 0, _ => exact h1
  | 1, _ => rw [add_off _ _ 1 (by decide)]; exact h2
theorem row_grs {W : World} {a : Option Addr} {l : List Gr} (h : RowAt 2 gcl W a l) : GrsAt W a l := fun j q hq => by
  obtain ⟨y, hy, hc⟩ := h j q hq
  have h1 := hc 1 (by omega)
  rw [add_off _ _ 1 (by decide)] at h1
  exact ⟨y, hy, by simpa [gcl] using hc 0 (by omega), h1⟩
theorem wrds_row {W : World} {a : Option Addr} {l : List Int} (h : WrdsAt W a l) : RowAt 1 wcl W a l := fun j q hq => by
  obtain ⟨y, hy, h1⟩ := h j q hq
  refine ⟨y, hy, fun i hi => ?_⟩
  obtain rfl : i = 0 := by omega
  simpa [wcl] using h1
theorem row_wrds {W : World} {a : Option Addr} {l : List Int} (h : RowAt 1 wcl W a l) : WrdsAt W a l := fun j q hq => by
  obtain ⟨y, hy, hc⟩ := h j q hq
  refine ⟨y, hy, ?_⟩
  simpa [wcl] using hc 0 (by omega)
set_option maxHeartbeats 1000000 in
theorem copiedG_any (a : Option Addr) (cap : Nat) (l : List Gr) (w : World) (hn : l.length ≤ 1000) (h : GrsAt w a l) :
    Calls Tryd.prog 69 #[.slice a l.length cap] w fun e w' => e = .returned (.slice (some ⟨w.heap.size, 0, none⟩) l.length l.length) ∧ GrsAt w' (some ⟨w.heap.size, 0, none⟩) l ∧ w.heap.size < w'.heap.size ∧ Below w.heap.size w w' := by
  obtain ⟨n, hl⟩ : ∃ n, l.length = n := ⟨_, rfl⟩
  rw [hl] at hn ⊢
  obtain ⟨W1, W2, hmk, hcp, hr, hlt, hB⟩ := copied_run gr_okT l n hl a cap w hn (grs_row h) 3
  replace hr := row_grs hr
  clear hl
  go_enter Tryd.func69, Tryd.ntmps69
  go_wp2_with fail
  go_ret
  exact ⟨rfl, hr, hlt, hB⟩
set_option maxHeartbeats 1000000 in
theorem copiedW_any (a : Option Addr) (cap : Nat) (l : List Int) (w : World) (hn : l.length ≤ 1000) (h : WrdsAt w a l) :
    Calls Tryd.prog 70 #[.slice a l.length cap] w fun e w' => e = .returned (.slice (some ⟨w.heap.size, 0, none⟩) l.length l.length) ∧ WrdsAt w' (some ⟨w.heap.size, 0, none⟩) l ∧ w.heap.size < w'.heap.size ∧ Below w.heap.size w w' := by
  obtain ⟨n, hl⟩ : ∃ n, l.length = n := ⟨_, rfl⟩
  rw [hl] at hn ⊢
  obtain ⟨W1, W2, hmk, hcp, hr, hlt, hB⟩ := copied_run wd_okT l n hl a cap w hn (wrds_row h) 3
  replace hr := row_wrds hr
  clear hl
  go_enter Tryd.func70, Tryd.ntmps70
  go_wp2_with fail
  go_ret
  exact ⟨rfl, hr, hlt, hB⟩
abbrev ndz : Array Value := #[.string ⟨#[]⟩, .bool false, .int .i64 0, .int .i64 0, .int .i64 0, .int .i64 0, .slice none 0 0, .int .i64 0, .int .i64 0, .int .i64 0, .int .i64 0, .slice none 0 0, .int .i64 0, .int .i64 0, .int .i64 0, .int .i64 0]
/-- Few enough to be copied. -/
def PN.Few (x : PN) : Prop := x.n.acl.length ≤ 1000 ∧ x.n.words.length ≤ 1000
theorem GrsAt.same {W W' : World} {g : Nat} {l : List Gr} (h : GrsAt W (some ⟨g, 0, none⟩) l) (hb : W'.heap[g]? = W.heap[g]?) : GrsAt W' (some ⟨g, 0, none⟩) l := row_grs fun j q hq => by
  obtain ⟨y, hy, hc⟩ := grs_row h j q hq
  obtain rfl := Option.some.inj hy
  refine ⟨_, rfl, fun i hi => ?_⟩
  rw [add_at] at *
  rw [← hc i hi, add_at]
  exact World.cell?_of_block (a := ⟨g, j * 2 + i, none⟩) hb
theorem WrdsAt.same {W W' : World} {g : Nat} {l : List Int} (h : WrdsAt W (some ⟨g, 0, none⟩) l) (hb : W'.heap[g]? = W.heap[g]?) : WrdsAt W' (some ⟨g, 0, none⟩) l := row_wrds fun j q hq => by
  obtain ⟨y, hy, hc⟩ := wrds_row h j q hq
  obtain rfl := Option.some.inj hy
  refine ⟨_, rfl, fun i hi => ?_⟩
  rw [add_at] at *
  rw [← hc i hi, add_at]
  exact World.cell?_of_block (a := ⟨g, j * 1 + i, none⟩) hb
/-- A row lies nowhere, or in a block of which that holds. -/
def InBlk (a : Option Addr) (P : Nat → Prop) : Prop := a = none ∨ ∃ g, a = some ⟨g, 0, none⟩ ∧ P g
theorem InBlk.imp {a : Option Addr} {P Q : Nat → Prop} (h : InBlk a P) (k : ∀ g, P g → Q g) : InBlk a Q := by
  rcases h with h | ⟨g, h, hp⟩
  · exact .inl h
  · exact .inr ⟨g, h, k g hp⟩
theorem grs_keep {W W' : World} {a : Option Addr} {l : List Gr} (h : GrsAt W a l) (hb : InBlk a fun g => W'.heap[g]? = W.heap[g]?) : GrsAt W' a l := by
  rcases hb with rfl | ⟨g, rfl, hb⟩
  · intro j q hq
    obtain ⟨y, hy, _⟩ := h j q hq
    cases hy
  · exact h.same hb
theorem wrds_keep {W W' : World} {a : Option Addr} {l : List Int} (h : WrdsAt W a l) (hb : InBlk a fun g => W'.heap[g]? = W.heap[g]?) : WrdsAt W' a l := by
  rcases hb with rfl | ⟨g, rfl, hb⟩
  · intro j q hq
    obtain ⟨y, hy, _⟩ := h j q hq
    cases hy
  · exact h.same hb
/-- Its rows lie in blocks of their own, behind that number. -/
def PN.Own (y : PN) (b : Nat) (W : World) : Prop := InBlk y.aa (fun g => b ≤ g ∧ g < W.heap.size) ∧ InBlk y.wa (fun g => b ≤ g ∧ g < W.heap.size)
theorem PN.At.cells {y : PN} {W : World} {b g : Nat} {W0 : World} (h : y.At W) (ho : y.Own b W0) (hg : g < b) (o : Nat) (vs : List Value) : y.At (W.setCells g o vs) :=
  ⟨grs_keep h.g (ho.1.imp fun k hk => heap_setCells_other (b := g) (k := k) (by omega) vs o W), wrds_keep h.w (ho.2.imp fun k hk => heap_setCells_other (b := g) (k := k) (by omega) vs o W)⟩
/-- Its rows lie in blocks other than a value's own. -/
def PN.Apart (y : PN) (W : World) (v : Value) : Prop := InBlk y.aa (fun g => g < W.heap.size ∧ some g ≠ v.ownBlock) ∧ InBlk y.wa (fun g => g < W.heap.size ∧ some g ≠ v.ownBlock)
theorem PN.Apart.grew {y : PN} {W W' : World} {v v' : Value} (h : y.Apart W v) (ha : y.At W) (k : Grew W v W' v') : y.Apart W' v' ∧ y.At W' :=
  ⟨⟨h.1.imp fun g hg => ⟨Nat.lt_of_lt_of_le hg.1 k.by_.size, k.apart hg.1 hg.2⟩, h.2.imp fun g hg => ⟨Nat.lt_of_lt_of_le hg.1 k.by_.size, k.apart hg.1 hg.2⟩⟩, grs_keep ha.g (h.1.imp fun g hg => k.by_.block _ hg.1 hg.2), wrds_keep ha.w (h.2.imp fun g hg => k.by_.block _ hg.1 hg.2)⟩
theorem PN.Apart.size {y : PN} {W W' : World} {v : Value} (h : y.Apart W v) (b : W.heap.size ≤ W'.heap.size) : y.Apart W' v := ⟨h.1.imp fun g hg => ⟨by omega, hg.2⟩, h.2.imp fun g hg => ⟨by omega, hg.2⟩⟩
theorem PN.Own.apart {y : PN} {W W' : World} {b : Nat} {v : Value} (h : y.Own b W) (hv : ∀ k, v.ownBlock = some k → k < b) : y.Apart W v :=
  ⟨h.1.imp fun g hg => ⟨hg.2, fun e => by have := hv _ e.symm; omega⟩, h.2.imp fun g hg => ⟨hg.2, fun e => by have := hv _ e.symm; omega⟩⟩
theorem PN.Own.lower {y : PN} {W W' : World} {b c : Nat} (h : y.Own b W) (hc : c ≤ b) (hs : W.heap.size ≤ W'.heap.size) : y.Own c W' := ⟨h.1.imp fun g hg => ⟨by omega, by omega⟩, h.2.imp fun g hg => ⟨by omega, by omega⟩⟩
set_option maxRecDepth 8000 in
set_option maxHeartbeats 2000000 in
theorem own_any (x : PN) (hx : x.Few) (w : World) (h : x.At w) :
    Calls Tryd.prog 57 #[.agg x.cs.toArray] w fun e w' => ∃ y : PN, e = .returned (.agg y.cs.toArray) ∧ y.n = x.n ∧ y.At w' ∧ y.Own w.heap.size w' ∧ Below w.heap.size w w' := by
  have hund := Tryd.underlying36
  have hsz : (Tryd.prog.info? 36).map (·.size) = some 16 := by kernel_rfl
  have hcs : x.cs = [.string x.n.path, .bool x.n.dir, .int .i64 x.n.label.s, .int .i64 x.n.label.c, .int .i64 x.n.label.i, .int .i64 x.n.label.k, .slice x.aa x.n.acl.length x.ca, .int .i64 x.n.r1, .int .i64 x.n.r2, .int .i64 x.n.r3, .int .i64 x.n.gates, .slice x.wa x.n.words.length x.cw, .int .i64 x.n.by_.s, .int .i64 x.n.by_.c, .int .i64 x.n.by_.i, .int .i64 x.n.by_.k] := rfl
  have hb0 := blkl_alloc w x.cs.toArray 36
  have hB0 := alloc_below w (.cells x.cs.toArray 36)
  have hz0 := World.size_alloc w (.cells x.cs.toArray 36)
  have hb1 := blkl_alloc (w.alloc (.cells x.cs.toArray 36)) #[.string ⟨#[]⟩, .bool false, .int .i64 0, .int .i64 0, .int .i64 0, .int .i64 0, .slice none 0 0, .int .i64 0, .int .i64 0, .int .i64 0, .int .i64 0, .slice none 0 0, .int .i64 0, .int .i64 0, .int .i64 0, .int .i64 0] 36
  have hB1 := alloc_below (w.alloc (.cells x.cs.toArray 36)) (.cells #[.string ⟨#[]⟩, .bool false, .int .i64 0, .int .i64 0, .int .i64 0, .int .i64 0, .slice none 0 0, .int .i64 0, .int .i64 0, .int .i64 0, .int .i64 0, .slice none 0 0, .int .i64 0, .int .i64 0, .int .i64 0, .int .i64 0] 36)
  have hz1 := World.size_alloc (w.alloc (.cells x.cs.toArray 36)) (.cells #[.string ⟨#[]⟩, .bool false, .int .i64 0, .int .i64 0, .int .i64 0, .int .i64 0, .slice none 0 0, .int .i64 0, .int .i64 0, .int .i64 0, .int .i64 0, .slice none 0 0, .int .i64 0, .int .i64 0, .int .i64 0, .int .i64 0] 36)
  rw [hz0] at hb1 hz1
  have hb0' := stab_blk _ _ _ _ hb0 hB1
  have hB01 := Below.then hB0 hB1
  clear hb0 hB0 hz0 hB1
  rw [hcs] at hb0' hb1 hz1 hB01 ⊢
  go_enter Tryd.func57, Tryd.ntmps57
  go_wp2_with fail
  generalize (w.alloc (.cells ([.string x.n.path, .bool x.n.dir, .int .i64 x.n.label.s, .int .i64 x.n.label.c, .int .i64 x.n.label.i, .int .i64 x.n.label.k, .slice x.aa x.n.acl.length x.ca, .int .i64 x.n.r1, .int .i64 x.n.r2, .int .i64 x.n.r3, .int .i64 x.n.gates, .slice x.wa x.n.words.length x.cw, .int .i64 x.n.by_.s, .int .i64 x.n.by_.c, .int .i64 x.n.by_.i, .int .i64 x.n.by_.k]).toArray 36)).alloc (.cells #[.string ⟨#[]⟩, .bool false, .int .i64 0, .int .i64 0, .int .i64 0, .int .i64 0, .slice none 0 0, .int .i64 0, .int .i64 0, .int .i64 0, .int .i64 0, .slice none 0 0, .int .i64 0, .int .i64 0, .int .i64 0, .int .i64 0] 36) = W at *
  refine (copiedG_any x.aa x.ca x.n.acl W hx.1 (h.g.below hB01)).mono ?_
  rintro e W2 ⟨rfl, hg2, hlt, hB2⟩
  have hB02 := Below.then hB01 hB2
  have hk2 := stab_blk _ _ _ _ hb0' hB2
  have hm2 := stab_blk _ _ _ _ hb1 hB2
  have hga : w.heap.size + 2 ≤ W.heap.size := by omega
  have hB2g : W.heap.size < W2.heap.size := hlt
  generalize W.heap.size = ga at *
  clear hb0' hb1 hB01 hB2 hz1
  have k6 := hk2.1 6 _ rfl
  obtain ⟨k61, k62⟩ := k6
  have k11 := (hk2.1 11 _ rfl).1
  have hk3 := hk2.1.set 6 (.slice (some ⟨ga, 0, none⟩) x.n.acl.length x.n.acl.length) (by simp)
  have hm3 := hm2.1.same (heap_setCell_other W2 ⟨w.heap.size, 6, none⟩ (w.heap.size + 1) (.slice (some ⟨ga, 0, none⟩) x.n.acl.length x.n.acl.length) (by simp))
  have hg3 := hg2.same (heap_setCell_other W2 ⟨w.heap.size, 6, none⟩ ga (.slice (some ⟨ga, 0, none⟩) x.n.acl.length x.n.acl.length) (by show ga ≠ w.heap.size; omega))
  have hB03 := hB02.setCell (p := ⟨w.heap.size, 6, none⟩) (Nat.le_refl _) (.slice (some ⟨ga, 0, none⟩) x.n.acl.length x.n.acl.length)
  have hz3 : (W2.setCell ⟨w.heap.size, 6, none⟩ (.slice (some ⟨ga, 0, none⟩) x.n.acl.length x.n.acl.length)).heap.size = W2.heap.size := by simp
  have hlt3 : ga < W2.heap.size := hB2g
  go_wp2_with fail
  generalize W2.setCell ⟨w.heap.size, 6, none⟩ (.slice (some ⟨ga, 0, none⟩) x.n.acl.length x.n.acl.length) = W3 at *
  clear hk2 hm2 hg2 hB02 k61 k62 k11
  refine (copiedW_any x.wa x.cw x.n.words W3 hx.2 (h.w.below hB03)).mono ?_
  rintro e W4 ⟨rfl, hw4, hltw, hB4⟩
  have hB04 := Below.then hB03 hB4
  have hk4 := hk3.same (hB4.block _ (by omega))
  have hm4 := hm3.same (hB4.block _ (by omega))
  have hg4 := hg3.same (hB4.block _ (by omega))
  have hgw : ga < W3.heap.size := by omega
  have hwg2 : w.heap.size + 2 ≤ W3.heap.size := by omega
  clear hk3 hm3 hg3 hB03 hz3
  generalize W3.heap.size = gw at *
  have hk5 := hk4.set 11 (.slice (some ⟨gw, 0, none⟩) x.n.words.length x.n.words.length) (by simp)
  have hm5 := hm4.same (heap_setCell_other W4 ⟨w.heap.size, 11, none⟩ (w.heap.size + 1) (.slice (some ⟨gw, 0, none⟩) x.n.words.length x.n.words.length) (by simp))
  have hg5 := hg4.same (heap_setCell_other W4 ⟨w.heap.size, 11, none⟩ ga (.slice (some ⟨gw, 0, none⟩) x.n.words.length x.n.words.length) (by show ga ≠ w.heap.size; omega))
  have hw5 := hw4.same (heap_setCell_other W4 ⟨w.heap.size, 11, none⟩ gw (.slice (some ⟨gw, 0, none⟩) x.n.words.length x.n.words.length) (by show gw ≠ w.heap.size; omega))
  have hB05 := hB04.setCell (p := ⟨w.heap.size, 11, none⟩) (Nat.le_refl _) (.slice (some ⟨gw, 0, none⟩) x.n.words.length x.n.words.length)
  obtain ⟨k111, k112⟩ := hk4 11 _ rfl
  obtain ⟨y, hy⟩ : ∃ y : PN, y = ⟨x.n, some ⟨ga, 0, none⟩, x.n.acl.length, some ⟨gw, 0, none⟩, x.n.words.length⟩ := ⟨_, rfl⟩
  have hyc : ((([.string x.n.path, .bool x.n.dir, .int .i64 x.n.label.s, .int .i64 x.n.label.c, .int .i64 x.n.label.i, .int .i64 x.n.label.k, .slice x.aa x.n.acl.length x.ca, .int .i64 x.n.r1, .int .i64 x.n.r2, .int .i64 x.n.r3, .int .i64 x.n.gates, .slice x.wa x.n.words.length x.cw, .int .i64 x.n.by_.s, .int .i64 x.n.by_.c, .int .i64 x.n.by_.i, .int .i64 x.n.by_.k]).set 6 (.slice (some ⟨ga, 0, none⟩) x.n.acl.length x.n.acl.length)).set 11 (.slice (some ⟨gw, 0, none⟩) x.n.words.length x.n.words.length)) = y.cs := by rw [hy]; rfl
  rw [hyc] at hk5
  have hrow := hk5.range
  obtain ⟨W5, hW5⟩ : ∃ W5, W4.setCell ⟨w.heap.size, 11, none⟩ (.slice (some ⟨gw, 0, none⟩) x.n.words.length x.n.words.length) = W5 := ⟨_, rfl⟩
  rw [hW5] at hm5 hg5 hw5 hB05 hrow
  have hth : W5.there (w.heap.size + 1) 0 y.cs.length := hm5.there
  have hk6 := hm5.setAll (cs := y.cs) rfl
  have hB06 : Below w.heap.size w (W5.setCells (w.heap.size + 1) 0 y.cs) := Below.cells (by omega) y.cs 0 hB05
  have hg6 := hg5.same (heap_setCells_other (b := w.heap.size + 1) (k := ga) (by omega) y.cs 0 W5)
  have hw6 := hw5.same (heap_setCells_other (b := w.heap.size + 1) (k := gw) (by omega) y.cs 0 W5)
  obtain ⟨W6, hW6⟩ : ∃ W6, W5.setCells (w.heap.size + 1) 0 y.cs = W6 := ⟨_, rfl⟩
  rw [hW6] at hk6 hB06 hg6 hw6
  have hyn : y.n = x.n := by rw [hy]
  have hs6 : W4.heap.size ≤ W6.heap.size := by rw [← hW6, ← hW5]; exact (Below.cells (Nat.zero_le _) y.cs 0 ((Below.refl 0 W4).setCell (p := ⟨w.heap.size, 11, none⟩) (Nat.zero_le _) (.slice (some ⟨gw, 0, none⟩) x.n.words.length x.n.words.length))).size
  have hyo : y.Own w.heap.size W6 := by rw [hy]; exact ⟨.inr ⟨ga, rfl, by omega, by omega⟩, .inr ⟨gw, rfl, by omega, by omega⟩⟩
  have hya : y.At W6 := by rw [hy]; exact ⟨hg6, hw6⟩
  clear hy hyc hcs hk4 hm4 hg4 hw4 hB04 hk5 hm5 hg5 hw5 hB05 hB4 hg6 hw6
  go_wp2_with (first | (refine wpList_load_row rfl _ rfl w.heap.size rfl y.cs hrow hund rfl hsz ?_) | (refine wpList_store_row rfl _ _ rfl (w.heap.size + 1) rfl y.cs rfl hth hsz (pn_one y) hW6 ?_) | fail)
  refine bodyPost_ret (v := .agg y.cs.toArray) (results_row1 rfl _ _ (w.heap.size + 1) rfl y.cs hk6.range hund rfl hsz) rfl ?_
  exact ⟨y, rfl, hyn, hya, hyo, hB06⟩
end Go.Proofs.YtapgjdmnlkedgaaDoor

/-! NODES FOUND, AND ROWS OF ONE'S OWN: package tree's Find and row, as they landed. -/
namespace Go.Proofs.YtapgjdmnlkedgaaDoor
open Go.RowKit
set_option maxRecDepth 8000
set_option linter.unusedSimpArgs false
set_option linter.unusedVariables false

theorem zero_at (W : World) : zeroP.At W := ⟨fun j g hg => by simp [zeroP] at hg, fun j g hg => by simp [zeroP] at hg⟩
theorem PartsN.at {l A M B : List PN} {u : ByteArray} (p : PartsN l u A M B) {x : PN} (hx : findP l u = some x) : l[A.length]? = some x ∧ (!M.isEmpty) = true := by
  rw [p.find] at hx
  cases M with
  | nil => cases hx
  | cons m r =>
    obtain rfl : m = x := by simpa using hx
    rw [p.eq, List.getElem?_append_right (Nat.le_refl _)]
    simp
theorem PartsN.not {l A M B : List PN} {u : ByteArray} (p : PartsN l u A M B) (hx : findP l u = none) : (!M.isEmpty) = false := by
  rw [p.find] at hx
  cases M with
  | nil => rfl
  | cons m r => cases hx
set_option maxRecDepth 8000 in
set_option maxHeartbeats 2000000 in
theorem tfindO_any (a : Option Addr) (cap : Nat) (l : List PN) (p : ByteArray) (hl : l.length ≤ 100000) (ho : OrdP l) (hf : ∀ x ∈ l, x.Few) (w : World) (h : RowN w a l) :
    Calls Tryd.prog 43 #[.slice a l.length cap, .string p] w fun e w' => ∃ y : PN, e = .returned (.tuple #[.agg y.cs.toArray, .bool (findP l p).isSome]) ∧ y.n = ((findP l p).getD zeroP).n ∧ y.At w' ∧ Below w.heap.size w w' ∧ y.Own w.heap.size w' := by
  have hund := Tryd.underlying36
  have hsz : (Tryd.prog.info? 36).map (·.size) = some 16 := by kernel_rfl
  obtain ⟨A, M, B, hP⟩ := partsN_of p l ho
  obtain ⟨fr, hfr⟩ : ∃ fr, findP l p = fr := ⟨_, rfl⟩
  rw [hfr]
  have hb0 := blkl_alloc w zeroP.cs.toArray 36
  have hB0 := alloc_below w (.cells zeroP.cs.toArray 36)
  have hz0 : zeroP.cs = [.string ⟨#[]⟩, .bool false, .int .i64 0, .int .i64 0, .int .i64 0, .int .i64 0, .slice none 0 0, .int .i64 0, .int .i64 0, .int .i64 0, .int .i64 0, .slice none 0 0, .int .i64 0, .int .i64 0, .int .i64 0, .int .i64 0] := rfl
  rw [hz0] at hb0 hB0
  have hrow := h.below hB0
  have kp := fun W (q : RowN W a l) => place_any W a cap l A M B p hP q hl
  obtain ⟨n, hn⟩ : ∃ n, l.length = n := ⟨_, rfl⟩
  rw [hn] at kp ⊢
  replace hn : Aside (l.length = n) := hn
  go_enter Tryd.func43, Tryd.ntmps43
  go_wp2_with fail
  generalize w.alloc (.cells #[.string ⟨#[]⟩, .bool false, .int .i64 0, .int .i64 0, .int .i64 0, .int .i64 0, .slice none 0 0, .int .i64 0, .int .i64 0, .int .i64 0, .int .i64 0, .slice none 0 0, .int .i64 0, .int .i64 0, .int .i64 0, .int .i64 0] 36) = W at *
  refine (kp W hrow).mono ?_
  rintro e W1 ⟨rfl, hB1⟩
  have hB01 := Below.then hB0 hB1
  have hb1 := stab_blk _ _ _ _ hb0 hB1
  have hrow1 := hrow.below hB1
  have hlt1 : w.heap.size < W1.heap.size := hb1.2
  clear kp hb0 hB0 hrow hB1
  cases fr with
  | none =>
    rw [hP.not hfr]
    have hk := hb1.1.setAll (cs := zeroP.cs) rfl
    have hBz : Below w.heap.size w (W1.setCells w.heap.size 0 zeroP.cs) := Below.cells (Nat.le_refl _) zeroP.cs 0 hB01
    have ht : W1.there w.heap.size 0 zeroP.cs.length := hb1.1.there
    obtain ⟨W2, hW2⟩ : ∃ W', W1.setCells w.heap.size 0 zeroP.cs = W' := ⟨_, rfl⟩
    rw [hW2] at hk hBz
    clear hb1 hP hfr
    go_wp2_with (first | (refine wpList_store_row rfl _ _ rfl w.heap.size rfl zeroP.cs rfl ht hsz (pn_one zeroP) hW2 ?_) | fail)
    refine bodyPost_ret (v := .tuple #[.agg zeroP.cs.toArray, .bool false]) (results_row2 rfl _ _ w.heap.size rfl (.bool false) rfl zeroP.cs hk.range hund rfl hsz) rfl ?_
    exact ⟨zeroP, rfl, rfl, zero_at _, hBz, .inl rfl, .inl rfl⟩
  | some x =>
    obtain ⟨hx, hm⟩ := hP.at hfr
    rw [hm]
    have hxm := List.mem_of_getElem? hx
    have hlt := (List.getElem?_eq_some_iff.1 hx).1
    rw [hn.out] at hlt
    obtain ⟨y0, rfl⟩ := h.some_ hx
    have hw := hrow1.r.at pn_len hx
    have ko := own_any x (hf x hxm) W1 (hrow1.p x hxm)
    obtain ⟨cs, hcs⟩ : ∃ cs, x.cs = cs := ⟨_, rfl⟩
    have hlen : cs.length = 16 := by rw [← hcs]; rfl
    rw [hcs] at hw ko
    have hsz1 : (Tryd.prog.info? 36).map (·.size) = some cs.length := by rw [hlen]; exact hsz
    obtain ⟨k, hk⟩ : ∃ k, A.length = k := ⟨_, rfl⟩
    rw [hk] at hw hlt ⊢
    clear hcs hk hx hfr hm hP h
    go_wp2_with (first | (refine wpList_load_at rfl _ rfl (y0.add (k * 16)) rfl cs hw hund rfl hsz1 ?_) | fail)
    refine ko.mono ?_
    rintro e W2 ⟨y, rfl, hyn, hya, hyo, hB2⟩
    have hb2 := stab_blk _ _ _ _ hb1 hB2
    have hB02 := Below.then hB01 hB2
    clear ko hw hb1
    have hk := hb2.1.setAll (cs := y.cs) rfl
    have hBz : Below w.heap.size w (W2.setCells w.heap.size 0 y.cs) := Below.cells (Nat.le_refl _) y.cs 0 hB02
    have ht : W2.there w.heap.size 0 y.cs.length := hb2.1.there
    have hyz := hya.cells hyo hlt1 0 y.cs
    have hyw : y.Own w.heap.size (W2.setCells w.heap.size 0 y.cs) := hyo.lower (by omega) (Below.cells (B := w.heap.size) (Nat.le_refl _) y.cs 0 (Below.refl _ W2)).size
    obtain ⟨W3, hW3⟩ : ∃ W', W2.setCells w.heap.size 0 y.cs = W' := ⟨_, rfl⟩
    rw [hW3] at hk hBz hyz hyw
    clear hb2 hya hB2
    go_wp2_with (first | (refine wpList_store_row rfl _ _ rfl w.heap.size rfl y.cs rfl ht hsz (pn_one y) hW3 ?_) | fail)
    refine bodyPost_ret (v := .tuple #[.agg y.cs.toArray, .bool true]) (results_row2 rfl _ _ w.heap.size rfl (.bool true) rfl y.cs hk.range hund rfl hsz) rfl ?_
    exact ⟨y, rfl, hyn, hyz, hBz, hyw⟩
theorem tfind_any (a : Option Addr) (cap : Nat) (l : List PN) (p : ByteArray) (hl : l.length ≤ 100000) (ho : OrdP l) (hf : ∀ x ∈ l, x.Few) (w : World) (h : RowN w a l) :
    Calls Tryd.prog 43 #[.slice a l.length cap, .string p] w fun e w' => ∃ y : PN, e = .returned (.tuple #[.agg y.cs.toArray, .bool (findP l p).isSome]) ∧ y.n = ((findP l p).getD zeroP).n ∧ y.At w' ∧ Below w.heap.size w w' := by
  refine (tfindO_any a cap l p hl ho hf w h).mono ?_
  rintro e w' ⟨y, h1, h2, h3, h4, _⟩
  exact ⟨y, h1, h2, h3, h4⟩
/-- A piece of a row. -/
structure Pc where
  a : Option Addr
  c : Nat
  l : List PN
def Pc.cs (x : Pc) : List Value := [.slice x.a x.l.length x.c]
theorem pc_len (x : Pc) : x.cs.length = 1 := rfl
def pcsN (ps : List Pc) : List Nod := ps.flatMap fun x => namesP x.l
theorem pcs_take {ps : List Pc} {i : Nat} {x : Pc} (h : ps[i]? = some x) : pcsN (ps.take (i + 1)) = pcsN (ps.take i) ++ namesP x.l := by
  unfold pcsN
  rw [List.take_add_one, h, List.flatMap_append]
  simp
theorem names_take {l : List PN} {j : Nat} {x : PN} (h : l[j]? = some x) : namesP (l.take (j + 1)) = namesP (l.take j) ++ [x.n] := by
  unfold namesP
  rw [List.take_add_one, h, List.map_append]
  rfl
end Go.Proofs.YtapgjdmnlkedgaaDoor

/-! PACKAGE monitor AS IT LANDED: enter, use, See, May. Written by mk_monfns.py. -/
namespace Go.Proofs.YtapgjdmnlkedgaaDoor
open Go.RowKit
set_option maxRecDepth 8000
set_option linter.unusedSimpArgs false
set_option linter.unusedVariables false

theorem FineL.few {l : List PN} (h : FineL l) : ∀ x ∈ l, x.Few := fun x hx => by
  obtain ⟨_, _, _, hA, hd, hs⟩ := nodC_zero.1 (h.ok x hx)
  refine ⟨(acl_sorted hA).2, ?_⟩
  cases hq : x.n.dir
  · have := (hs hq).2.2; omega
  · have := (hd hq).2; omega
theorem FineL.lab {l : List PN} (h : FineL l) {x : PN} (hx : x ∈ l) : GL x.n.label := (nodC_zero.1 (h.ok x hx)).2.1
theorem findP_in {l : List PN} {p : ByteArray} {d : PN} (h : findP l p = some d) : d ∈ l := List.mem_of_find?_eq_some h
theorem nd_labL {W : World} {g : Nat} {x : PN} (h : BlkL g [.string x.n.path, .bool x.n.dir, .int .i64 x.n.label.s, .int .i64 x.n.label.c, .int .i64 x.n.label.i, .int .i64 x.n.label.k, .slice x.aa x.n.acl.length x.ca, .int .i64 x.n.r1, .int .i64 x.n.r2, .int .i64 x.n.r3, .int .i64 x.n.gates, .slice x.wa x.n.words.length x.cw, .int .i64 x.n.by_.s, .int .i64 x.n.by_.c, .int .i64 x.n.by_.i, .int .i64 x.n.by_.k] W) : CellsAt W ⟨g, 2, none⟩ (labM x.n.label) := nd_lab (x := x) h
theorem bits_not : ∀ M m : Fin 8, (bits .andNot .i64 ((m.val : Nat) : Int) ((M.val : Nat) : Int) != 0) = (bits .and .i64 ((M.val : Nat) : Int) ((m.val : Nat) : Int) != ((m.val : Nat) : Int)) := by decide +kernel
theorem cells_size (W : World) (b o : Nat) (vs : List Value) : W.heap.size ≤ (W.setCells b o vs).heap.size := (Below.cells (B := b) (Nat.le_refl _) vs o (Below.refl _ W)).size
theorem check_first {ns : List ByteArray} (hn : Names ns) : (bytes (pathB ns)).getD 0 0 = 47 := by
  by_cases h : ns = []
  · rw [h, pathB_nil]; rfl
  · rw [pathB_bytes h]
    cases ns with
    | nil => exact absurd rfl h
    | cons x r => rfl
theorem lover_rov {a b : Lab} (ha : GL a) (hb : GL b) (w : World) :
    Calls Tryd.prog 49 #[a.v, b.v] w fun e w' => e = .returned (.bool (rov a b)) ∧ Below w.heap.size w w' := by
  have h := lover_any a b w
  obtain ⟨A, rfl, hA⟩ := ha.nl
  obtain ⟨B, rfl, hB⟩ := hb.nl
  rw [rov_ov hA hB]
  exact h
set_option maxRecDepth 20000 in
set_option maxHeartbeats 4000000 in
theorem menter_any (a : Option Addr) (cap : Nat) (l : List PN) (u : ByteArray) (t : Lab) (p : ByteArray) (hF : FineL l) (hGt : GL t) (w : World) (h : RowN w a l) :
    Calls Tryd.prog 41 #[.slice a l.length cap, .agg (sbL u t).toArray, .string p] w fun e w' => e = .returned (.int .i64 (stepE t (findN (namesP l) p))) ∧ Below w.heap.size w w' := by
  have hund := Tryd.underlying36
  have hundL := Tryd.underlying25
  have hszN : (Tryd.prog.info? 36).map (·.size) = some 16 := by kernel_rfl
  have hsl : (Tryd.prog.info? 25).map (·.size) = some 4 := by kernel_rfl
  obtain ⟨E, hE⟩ : ∃ E, stepE t (findN (namesP l) p) = E := ⟨_, rfl⟩
  rw [hE]
  rw [find_names] at hE
  have hbs := blkl_alloc w (sbL u t).toArray 47
  have hB0 := alloc_below w (.cells (sbL u t).toArray 47)
  replace hbs : BlkL w.heap.size (sbL u t) (w.alloc (.cells (sbL u t).toArray 47)) := hbs
  have kf := fun W (q : RowN W a l) => tfind_any a cap l p (by have := hF.len; omega) (ordP.1 hF.ord) hF.few W q
  obtain ⟨fr, hfr⟩ : ∃ fr, findP l p = fr := ⟨_, rfl⟩
  rw [hfr] at kf hE
  have hlab : ∀ d, fr = some d → GL d.n.label := fun d q => hF.lab (findP_in (hfr.trans q))
  obtain ⟨n, hn⟩ : ∃ n, l.length = n := ⟨_, rfl⟩
  rw [hn] at kf ⊢
  replace hn : Aside (l.length = n) := hn
  clear hfr
  go_enter Tryd.func41, Tryd.ntmps41
  go_wp2_with fail
  generalize w.alloc (.cells (sbL u t).toArray 47) = W0 at *
  cases fr with
  | none =>
    rw [Option.isSome_none] at kf
    obtain rfl : E = 2 := hE.symm
    refine (kf W0 (h.below hB0)).mono ?_
    rintro e W3 ⟨y, rfl, hy, hya, hB3⟩
    obtain ⟨W4, hW4, hth4, hbn, hB4⟩ := put_new W3 zN 36 y.cs (by rw [pn_len]; rfl) (by rw [pn_len]; omega)
    have hB := Below.then hB0 (Below.then hB3 hB4)
    clear kf hbs hya hy
    go_wp2_with (first | (refine wpList_store_row rfl _ _ rfl W3.heap.size rfl y.cs rfl hth4 (by rw [pn_len]; exact hszN) (pn_one y) hW4 ?_) | fail)
    go_ret
    exact ⟨rfl, hB⟩
  | some d =>
    rw [Option.isSome_some] at kf
    have hGd := hlab d rfl
    replace hE : Aside (stepE t (some d.n) = E) := hE
    refine (kf W0 (h.below hB0)).mono ?_
    rintro e W3 ⟨y, rfl, hy, hya, hB3⟩
    replace hy : y.n = d.n := hy
    rw [← hy] at hE hGd
    obtain ⟨W4, hW4, hth4, hbn, hB4⟩ := put_new W3 zN 36 y.cs (by rw [pn_len]; rfl) (by rw [pn_len]; omega)
    have hB := Below.then hB0 (Below.then hB3 hB4)
    replace hbs := stab_blk _ _ _ _ hbs (Below.then hB3 hB4)
    have hz1 := (hbn.1 1 _ rfl).1
    have hcb := sb_lab hbs
    have hcn := nd_lab hbn
    clear kf hya hlab hy hbs hbn
    cases hd : y.n.dir
    · obtain rfl : E = 3 := by rw [← hE.out]; unfold stepE; simp [hd]
      rw [hd] at hz1
      go_wp2_with (first | (refine wpList_store_row rfl _ _ rfl W3.heap.size rfl y.cs rfl hth4 (by rw [pn_len]; exact hszN) (pn_one y) hW4 ?_) | fail)
      go_ret
      exact ⟨rfl, hB⟩
    · rw [hd] at hz1
      have kv := lover_rov hGt hGd W4
      cases hr : rov t y.n.label
      · obtain rfl : E = 15 := by rw [← hE.out]; unfold stepE; simp [hd, hr]
        rw [hr] at kv
        go_wp2_with (first | (refine wpList_store_row rfl _ _ rfl W3.heap.size rfl y.cs rfl hth4 (by rw [pn_len]; exact hszN) (pn_one y) hW4 ?_) | (refine wpList_load_at rfl _ rfl ⟨w.heap.size, 1, none⟩ rfl (labM t) hcb hundL rfl hsl ?_) | (refine wpList_load_at rfl _ rfl ⟨W3.heap.size, 2, none⟩ rfl (labM y.n.label) hcn hundL rfl hsl ?_) | fail)
        refine kv.mono ?_
        rintro e W5 ⟨rfl, hB5⟩
        have hfin := Below.then hB hB5
        go_wp2_with fail
        go_ret
        exact ⟨rfl, hfin⟩
      · obtain rfl : E = 0 := by rw [← hE.out]; unfold stepE; simp [hd, hr]
        rw [hr] at kv
        go_wp2_with (first | (refine wpList_store_row rfl _ _ rfl W3.heap.size rfl y.cs rfl hth4 (by rw [pn_len]; exact hszN) (pn_one y) hW4 ?_) | (refine wpList_load_at rfl _ rfl ⟨w.heap.size, 1, none⟩ rfl (labM t) hcb hundL rfl hsl ?_) | (refine wpList_load_at rfl _ rfl ⟨W3.heap.size, 2, none⟩ rfl (labM y.n.label) hcn hundL rfl hsl ?_) | fail)
        refine kv.mono ?_
        rintro e W5 ⟨rfl, hB5⟩
        have hfin := Below.then hB hB5
        go_wp2_with fail
        go_ret
        exact ⟨rfl, hfin⟩
set_option maxRecDepth 20000 in
set_option maxHeartbeats 4000000 in
theorem muse_any (x : PN) (u : ByteArray) (t : Lab) (m : Int) (hm1 : 1 ≤ m) (hm7 : m ≤ 7) (hGt : GL t) (hGx : GL x.n.label) (hA : chkA x.n.acl = 0) (w : World) (h : x.At w) :
    Calls Tryd.prog 36 #[.agg x.cs.toArray, .agg (sbL u t).toArray, .int .i64 m] w fun e w' => e = .returned (.int .i64 (modE x.n u t m)) ∧ Below w.heap.size w w' := by
  have hund := Tryd.underlying36
  have hundL := Tryd.underlying25
  have hsl : (Tryd.prog.info? 25).map (·.size) = some 4 := by kernel_rfl
  obtain ⟨E, hE⟩ : ∃ E, modE x.n u t m = E := ⟨_, rfl⟩
  rw [hE]
  unfold modE at hE
  have hso := (acl_sorted hA).1
  have hac := (acl_sorted hA).2
  obtain ⟨MM, hMM⟩ : ∃ MM, modesL x.n.acl u = MM := ⟨_, rfl⟩
  have hnot : (bits .andNot .i64 m MM != 0) = (bits .and .i64 MM m != m) := by
    obtain ⟨b0, b7⟩ := modes_range hA u
    rw [hMM] at b0 b7
    obtain ⟨M8, rfl⟩ := fin8 b0 b7
    obtain ⟨m8, rfl⟩ := fin8 (show 0 ≤ m by omega) hm7
    exact bits_not M8 m8
  rw [hMM] at hE
  have hb1 := alloc_below w (.cells x.cs.toArray 36)
  have hb2 := alloc_below (w.alloc (.cells x.cs.toArray 36)) (.cells (sbL u t).toArray 47)
  have hbx := stab_blk _ _ _ _ (blkl_alloc w x.cs.toArray 36) hb2
  have hbs := blkl_alloc (w.alloc (.cells x.cs.toArray 36)) (sbL u t).toArray 47
  rw [World.size_alloc] at hbs
  replace hbs : BlkL (w.heap.size + 1) (sbL u t) _ := hbs
  have hB := Below.then hb1 hb2
  have hxa := h.below hB
  have hcs : x.cs = [.string x.n.path, .bool x.n.dir, .int .i64 x.n.label.s, .int .i64 x.n.label.c, .int .i64 x.n.label.i, .int .i64 x.n.label.k, .slice x.aa x.n.acl.length x.ca, .int .i64 x.n.r1, .int .i64 x.n.r2, .int .i64 x.n.r3, .int .i64 x.n.gates, .slice x.wa x.n.words.length x.cw, .int .i64 x.n.by_.s, .int .i64 x.n.by_.c, .int .i64 x.n.by_.i, .int .i64 x.n.by_.k] := rfl
  rw [hcs] at hbx hbs hB hxa ⊢
  clear hb1 hb2 h hcs hm1 hm7
  have hnq : ∀ X, (binOp .neq 25 (.agg (labM t).toArray) (.agg (labM x.n.label).toArray)).run Tryd.prog X = .ok (.bool (!labEq t x.n.label)) X := run_neq_lab t x.n.label
  obtain ⟨A5, hA5⟩ : ∃ A5, bits .and .i64 m 5 = A5 := ⟨_, rfl⟩
  obtain ⟨A2, hA2⟩ : ∃ A2, bits .and .i64 m 2 = A2 := ⟨_, rfl⟩
  rw [hA5, hA2] at hE
  go_enter Tryd.func36, Tryd.ntmps36
  go_upto_region 1 with fail
  generalize (w.alloc (.cells ([.string x.n.path, .bool x.n.dir, .int .i64 x.n.label.s, .int .i64 x.n.label.c, .int .i64 x.n.label.i, .int .i64 x.n.label.k, .slice x.aa x.n.acl.length x.ca, .int .i64 x.n.r1, .int .i64 x.n.r2, .int .i64 x.n.r3, .int .i64 x.n.gates, .slice x.wa x.n.words.length x.cw, .int .i64 x.n.by_.s, .int .i64 x.n.by_.c, .int .i64 x.n.by_.i, .int .i64 x.n.by_.k]).toArray 36)).alloc (.cells (sbL u t).toArray 47) = W0 at *
  have hcb := sb_lab hbs
  have hcn := nd_labL hbx
  have kv := lover_rov hGt hGx W0
  cases hq5 : (A5 != 0)
  · rw [hq5, if_neg (fun q => by cases q.1)] at hE
    clear kv
    go_upto_region 2 with (first | fail)
    clear hcb hcn
    have hcb := sb_lab hbs
    have hcn := nd_labL hbx
    cases hq2 : (A2 != 0)
    · rw [hq2, if_neg (fun q => by cases q.1)] at hE
      go_upto_region 3 with (first | fail)
      clear hcb hcn
      have hz6 := (hbx.1 6 _ rfl).1
      have hz0 := (hbs.1 0 _ rfl).1
      have km := modes_any W0 x.aa x.ca x.n.acl u hso hxa.g hac
      rw [hMM] at km
      go_wp2_with fail
      refine km.mono ?_
      rintro e W7 ⟨rfl, hB7⟩
      have hfin := Below.then hB hB7
      clear km
      obtain ⟨AN, hAN⟩ : ∃ AN, bits .andNot .i64 m MM = AN := ⟨_, rfl⟩
      rw [hAN] at hnot
      cases hq : (AN != 0)
      · rw [← hnot, hq, if_neg (by decide)] at hE
        clear hnot
        subst hE
        go_wp2_with fail
        go_ret
        exact ⟨rfl, hfin⟩
      · rw [← hnot, hq, if_pos rfl] at hE
        clear hnot
        subst hE
        go_wp2_with fail
        go_ret
        exact ⟨rfl, hfin⟩
    · cases hle : labEq t x.n.label
      · rw [hle] at hnq
        rw [hq2, hle, if_pos ⟨rfl, rfl⟩] at hE
        subst hE
        go_wp2_with (first | (refine wpList_load_atg (by rfl) _ rfl ⟨w.heap.size + 1, 1, none⟩ rfl (labM t) hcb hundL rfl hsl ?_) | (refine wpList_load_atg (by rfl) _ rfl ⟨w.heap.size, 2, none⟩ rfl (labM x.n.label) hcn hundL rfl hsl ?_) | fail)
        go_ret
        exact ⟨rfl, hB⟩
      · rw [hle] at hnq
        rw [hle, if_neg (fun q => by cases q.2)] at hE
        go_upto_region 3 with (first | (refine wpList_load_atg (by rfl) _ rfl ⟨w.heap.size + 1, 1, none⟩ rfl (labM t) hcb hundL rfl hsl ?_) | (refine wpList_load_atg (by rfl) _ rfl ⟨w.heap.size, 2, none⟩ rfl (labM x.n.label) hcn hundL rfl hsl ?_) | fail)
        clear hcb hcn
        have hz6 := (hbx.1 6 _ rfl).1
        have hz0 := (hbs.1 0 _ rfl).1
        have km := modes_any W0 x.aa x.ca x.n.acl u hso hxa.g hac
        rw [hMM] at km
        go_wp2_with fail
        refine km.mono ?_
        rintro e W7 ⟨rfl, hB7⟩
        have hfin := Below.then hB hB7
        clear km
        obtain ⟨AN, hAN⟩ : ∃ AN, bits .andNot .i64 m MM = AN := ⟨_, rfl⟩
        rw [hAN] at hnot
        cases hq : (AN != 0)
        · rw [← hnot, hq, if_neg (by decide)] at hE
          clear hnot
          subst hE
          go_wp2_with fail
          go_ret
          exact ⟨rfl, hfin⟩
        · rw [← hnot, hq, if_pos rfl] at hE
          clear hnot
          subst hE
          go_wp2_with fail
          go_ret
          exact ⟨rfl, hfin⟩
  · cases hr : rov t x.n.label
    · rw [hr] at kv
      rw [hq5, hr, if_pos ⟨rfl, rfl⟩] at hE
      subst hE
      go_wp2_with (first | (refine wpList_load_atg (by rfl) _ rfl ⟨w.heap.size + 1, 1, none⟩ rfl (labM t) hcb hundL rfl hsl ?_) | (refine wpList_load_atg (by rfl) _ rfl ⟨w.heap.size, 2, none⟩ rfl (labM x.n.label) hcn hundL rfl hsl ?_) | fail)
      refine kv.mono ?_
      rintro e W5 ⟨rfl, hB5⟩
      have hfin := Below.then hB hB5
      clear kv hcb hcn
      go_wp2_with fail
      go_ret
      exact ⟨rfl, hfin⟩
    · rw [hr] at kv
      rw [hr, if_neg (fun q => by cases q.2)] at hE
      go_wp2_with (first | (refine wpList_load_atg (by rfl) _ rfl ⟨w.heap.size + 1, 1, none⟩ rfl (labM t) hcb hundL rfl hsl ?_) | (refine wpList_load_atg (by rfl) _ rfl ⟨w.heap.size, 2, none⟩ rfl (labM x.n.label) hcn hundL rfl hsl ?_) | fail)
      refine kv.mono ?_
      rintro e W5 ⟨rfl, hB5⟩
      replace hB := Below.then hB hB5
      replace hbx := stab_blk _ _ _ _ hbx hB5
      replace hbs := stab_blk _ _ _ _ hbs hB5
      replace hxa := hxa.below hB5
      clear kv hcb hcn
      go_upto_region 2 with fail
      have hcb := sb_lab hbs
      have hcn := nd_labL hbx
      cases hq2 : (A2 != 0)
      · rw [hq2, if_neg (fun q => by cases q.1)] at hE
        go_upto_region 3 with (first | fail)
        clear hcb hcn
        have hz6 := (hbx.1 6 _ rfl).1
        have hz0 := (hbs.1 0 _ rfl).1
        have km := modes_any W5 x.aa x.ca x.n.acl u hso hxa.g hac
        rw [hMM] at km
        go_wp2_with fail
        refine km.mono ?_
        rintro e W7 ⟨rfl, hB7⟩
        have hfin := Below.then hB hB7
        clear km
        obtain ⟨AN, hAN⟩ : ∃ AN, bits .andNot .i64 m MM = AN := ⟨_, rfl⟩
        rw [hAN] at hnot
        cases hq : (AN != 0)
        · rw [← hnot, hq, if_neg (by decide)] at hE
          clear hnot
          subst hE
          go_wp2_with fail
          go_ret
          exact ⟨rfl, hfin⟩
        · rw [← hnot, hq, if_pos rfl] at hE
          clear hnot
          subst hE
          go_wp2_with fail
          go_ret
          exact ⟨rfl, hfin⟩
      · cases hle : labEq t x.n.label
        · rw [hle] at hnq
          rw [hq2, hle, if_pos ⟨rfl, rfl⟩] at hE
          subst hE
          go_wp2_with (first | (refine wpList_load_atg (by rfl) _ rfl ⟨w.heap.size + 1, 1, none⟩ rfl (labM t) hcb hundL rfl hsl ?_) | (refine wpList_load_atg (by rfl) _ rfl ⟨w.heap.size, 2, none⟩ rfl (labM x.n.label) hcn hundL rfl hsl ?_) | fail)
          go_ret
          exact ⟨rfl, hB⟩
        · rw [hle] at hnq
          rw [hle, if_neg (fun q => by cases q.2)] at hE
          go_upto_region 3 with (first | (refine wpList_load_atg (by rfl) _ rfl ⟨w.heap.size + 1, 1, none⟩ rfl (labM t) hcb hundL rfl hsl ?_) | (refine wpList_load_atg (by rfl) _ rfl ⟨w.heap.size, 2, none⟩ rfl (labM x.n.label) hcn hundL rfl hsl ?_) | fail)
          clear hcb hcn
          have hz6 := (hbx.1 6 _ rfl).1
          have hz0 := (hbs.1 0 _ rfl).1
          have km := modes_any W5 x.aa x.ca x.n.acl u hso hxa.g hac
          rw [hMM] at km
          go_wp2_with fail
          refine km.mono ?_
          rintro e W7 ⟨rfl, hB7⟩
          have hfin := Below.then hB hB7
          clear km
          obtain ⟨AN, hAN⟩ : ∃ AN, bits .andNot .i64 m MM = AN := ⟨_, rfl⟩
          rw [hAN] at hnot
          cases hq : (AN != 0)
          · rw [← hnot, hq, if_neg (by decide)] at hE
            clear hnot
            subst hE
            go_wp2_with fail
            go_ret
            exact ⟨rfl, hfin⟩
          · rw [← hnot, hq, if_pos rfl] at hE
            clear hnot
            subst hE
            go_wp2_with fail
            go_ret
            exact ⟨rfl, hfin⟩
theorem told_zero {L : List Nod} {p : ByteArray} {e : Int} (h : e ≠ 0) : zeroP.n = toldN L p e := by
  unfold toldN
  rw [if_neg h]
  rfl
theorem ms_startM (w : World) (u : ByteArray) (t : Lab) : MS w ((w.alloc (.cells (sbL u t).toArray 47)).alloc (.cells zN 36)) u t := by
  have hb := alloc_below w (.cells (sbL u t).toArray 47)
  have hb2 := alloc_below (w.alloc (.cells (sbL u t).toArray 47)) (.cells zN 36)
  have h2 := blkl_alloc (w.alloc (.cells (sbL u t).toArray 47)) zN 36
  rw [World.size_alloc] at h2
  exact ⟨Below.then hb hb2, stab_blk _ _ _ _ (blkl_alloc w (sbL u t).toArray 47) hb2, h2⟩
set_option maxRecDepth 20000 in
set_option maxHeartbeats 8000000 in
theorem msee_any (a : Option Addr) (cap : Nat) (l : List PN) (u : ByteArray) (t : Lab) (p : ByteArray) (hF : FineL l) (hGt : GL t) (hp : p.size ≤ 1000) (w : World) (h : RowN w a l) (hV : MaxV w) :
    Calls Tryd.prog 27 #[.slice a l.length cap, .agg (sbL u t).toArray, .string p] w fun e w' => ∃ f : PN, e = .returned (.tuple #[.agg f.cs.toArray, .int .i64 (seeE (namesP l) t p)]) ∧ f.n = toldN (namesP l) p (seeE (namesP l) t p) ∧ f.At w' ∧ Below w.heap.size w w' ∧ f.Own w.heap.size w' := by
  have hund := Tryd.underlying36
  have hundM := Tryd.underlying47
  have hsz : (Tryd.prog.info? 36).map (·.size) = some zeroP.cs.length := by kernel_rfl
  have hszN : (Tryd.prog.info? 36).map (·.size) = some 16 := by kernel_rfl
  have hsm : (Tryd.prog.info? 47).map (·.size) = some 5 := by kernel_rfl
  have kf := fun q W (r : RowN W a l) => tfindO_any a cap l q (by have := hF.len; omega) (ordP.1 hF.ord) hF.few W r
  have ke := fun q W (r : RowN W a l) => menter_any a cap l u t q hF hGt W r
  have kc := fun W (q : MaxV W) => pcheck_any p (by omega) W q
  obtain ⟨E, hE⟩ : ∃ E, seeE (namesP l) t p = E := ⟨_, rfl⟩
  rw [hE]
  unfold seeE at hE
  obtain ⟨n, hn⟩ : ∃ n, l.length = n := ⟨_, rfl⟩
  rw [hn] at kf ke ⊢
  replace hn : Aside (l.length = n) := hn
  have h0 := ms_startM w u t
  generalize hce : checkOf p = ce at *
  have hbad := True.intro
  go_enter Tryd.func27, Tryd.ntmps27
  go_wp2_with fail
  generalize (w.alloc (.cells (sbL u t).toArray 47)).alloc (.cells zN 36) = W0 at *
  refine (kc W0 (hV.below h0.bl)).mono ?_
  rintro e W1 ⟨rfl, hB1⟩
  have h1 := h0.then hB1
  clear kc h0 hB1
  by_cases hc0 : ce = 0
  rotate_left
  · rw [if_pos hc0] at hE
    subst hE
    clear kf ke
    obtain ⟨W9, hW9, hth9, hk9, hb9⟩ := put_res h1.rs zeroP h1.bl (by omega)
    have hzz : zeroP.n = toldN (namesP l) p ce := told_zero hc0
    have hza := zero_atM W9
    clear hbad
    as_aux_lemma =>
      go_wp2_with (first | (refine wpList_store_part rfl _ _ rfl (w.heap.size + 1) 0 rfl zeroP.cs rfl hth9 hsz (pn_one zeroP) hW9 ?_) | fail)
      refine bodyPost_ret (v := .tuple #[.agg zeroP.cs.toArray, .int .i64 ce]) (results_row2 rfl _ _ (w.heap.size + 1) rfl (.int .i64 ce) rfl zeroP.cs hk9.range hund rfl hsz) rfl ?_
      exact ⟨zeroP, rfl, hzz, hza, hb9, .inl rfl, .inl rfl⟩
  subst hc0
  rw [if_neg (by simp)] at hE
  obtain ⟨ns, hns, rfl, h78⟩ := check_path hce
  have hpp : partsOf (pathB ns) = ns := parts_path hns.flat
  have hpq : ppartsOf (pathB ns) = ns := by rw [pparts_eq (check_first hns), hpp]
  rw [hpp] at hE
  have kp := parts_any (pathB ns) (by omega) W1 (hV.below h1.bl)
  rw [hpq] at kp
  obtain ⟨ln, hln⟩ : ∃ ln, ns.length = ln := ⟨_, rfl⟩
  go_wp2_with fail
  refine kp.mono ?_
  rintro e W2 ⟨pv, rfl, ho2, hB2⟩
  have h2 := h1.then hB2
  obtain ⟨pa, pcap, rfl⟩ := ho2.slice hln
  obtain ⟨B2, hB2e⟩ : ∃ B2, W1.heap.size = B2 := ⟨_, rfl⟩
  rw [hB2e] at ho2
  clear kp h1 hB2 hB2e hpp hpq
  replace hce : Aside _ := hce
  have hln6 : ln ≤ 6 := by rw [← hln]; exact hns.1
  replace hE : Aside _ := hE
  replace hln : Aside (ns.length = ln) := hln
  go_wp2_with fail
  go_loopw [9, 24] (fun t9 t24 wr => ∃ i : Nat, i ≤ ln ∧ t24 = .int .i64 (i : Int) ∧ t9 = .string (pathB (ns.take i)) ∧ Aside (wayE (namesP l) t [] ns = wayE (namesP l) t (ns.take i) (ns.drop i)) ∧ MS w wr u t ∧ OwnS wr B2 (.slice pa ln pcap) ns) (fun _ t24 _ => ln - (Go.RowKit.intOf t24).toNat)
  case atStart => exact ⟨0, by omega, rfl, by rw [List.take_zero, pathB_nil]; rfl, rfl, h2, ho2⟩
  case round =>
    clear h2 ho2
    obtain ⟨i, hi, rfl, rfl, hway, hM, ho⟩ := hrel
    by_cases hlt : i < ln
    · obtain ⟨nm, hnm⟩ : ∃ nm, ns[i]? = some nm := ⟨_, List.getElem?_eq_getElem (by rw [hln.out]; exact hlt)⟩
      have hnn := hns.flat nm (List.mem_of_getElem? hnm)
      have hnsz := (name_size (hns.2 nm (List.mem_of_getElem? hnm))).2
      have hw2 := hway.out
      rw [way_succ hnm] at hw2
      have hjoin : joinOf (pathB (ns.take i)) nm = pathB (ns.take (i + 1)) := by
        rw [join_path nm (fun q hq => (hns.flat q (List.mem_of_mem_take hq)).2), List.take_add_one, hnm]
        rfl
      have hats : (pathB (ns.take i)).size ≤ 1000000 := by
        have : Names (ns.take i) := ⟨by rw [List.length_take]; have := hns.1; omega, fun q hq => hns.2 q (List.mem_of_mem_take hq)⟩
        have := names_size this
        omega
      have kj := join_any (pathB (ns.take i)) nm hats (by omega)
      rw [hjoin] at kj
      have kb := ke (pathB (ns.take i)) wr (h.below hM.bl)
      obtain ⟨se, hse⟩ : ∃ se, stepE t (findN (namesP l) (pathB (ns.take i))) = se := ⟨_, rfl⟩
      rw [hse] at kb hw2
      obtain ⟨at_, hat⟩ : ∃ at_, pathB (ns.take i) = at_ := ⟨_, rfl⟩
      rw [hat] at kb kj ⊢
      have i1 : (i : Int) < (ln : Int) := by omega
      obtain ⟨g5, c5, hv5, hc5, _, _⟩ := ho.at hln.out hnm
      injection hv5 with q1 q2 q3
      subst q1 q3
      have hrs := hM.bx.range
      clear hway hat hjoin hats hse
      replace hw2 : Aside _ := hw2
      go_wp2_with (first | (refine wpList_load_row rfl _ rfl w.heap.size rfl (sbL u t) hrs hundM rfl hsm ?_) | fail)
      refine kb.mono ?_
      rintro e W3 ⟨rfl, hB3⟩
      have hM3 := hM.then hB3
      have ho3 := ho.below hB3
      clear kb hM hB3 ho hrs hc5
      by_cases hs0 : se = 0
      rotate_left
      · obtain rfl : E = se := by
          have q := hw2.out
          rw [if_pos hs0] at q
          rw [← hE.out, q, if_pos hs0]
        clear kf ke kj hE hw2
        obtain ⟨W9, hW9, hth9, hk9, hb9⟩ := put_res hM3.rs zeroP hM3.bl (by omega)
        have hzz : zeroP.n = toldN (namesP l) (pathB ns) E := told_zero hs0
        have hza := zero_atM W9
        clear hbad
        as_aux_lemma =>
          go_wp2_with (first | (refine wpList_store_part rfl _ _ rfl (w.heap.size + 1) 0 rfl zeroP.cs rfl hth9 hsz (pn_one zeroP) hW9 ?_) | fail)
          refine bodyPost_ret (v := .tuple #[.agg zeroP.cs.toArray, .int .i64 E]) (results_row2 rfl _ _ (w.heap.size + 1) rfl (.int .i64 E) rfl zeroP.cs hk9.range hund rfl hsz) rfl ?_
          exact ⟨zeroP, rfl, hzz, hza, hb9, .inl rfl, .inl rfl⟩
      · subst hs0
        have hw3 : Aside (wayE (namesP l) t [] ns = wayE (namesP l) t (ns.take (i + 1)) (ns.drop (i + 1))) := by
          have q := hw2.out
          rw [if_neg (by simp)] at q
          exact q
        clear hw2
        go_wp2_with fail
        refine (kj W3).mono ?_
        rintro e w6 ⟨rfl, hw6⟩
        replace hw6 := hw6.symm
        subst hw6
        go_wp2_with fail
        exact ⟨⟨i + 1, by omega, by simp, rfl, hw3, hM3, ho3⟩, by simp [Go.RowKit.intOf]; omega⟩
    · obtain rfl : i = ln := by omega
      have htk : ns.take i = ns := List.take_of_length_le (by rw [hln.out]; exact Nat.le_refl _)
      rw [htk]
      have hw0 : wayE (namesP l) t [] ns = 0 := by
        have q := hway.out
        rw [List.drop_eq_nil_of_le (by rw [hln.out]; exact Nat.le_refl _)] at q
        rw [q]
        rfl
      have hE2 := hE.out
      rw [hw0, if_neg (by simp), find_names] at hE2
      have kb := kf (pathB ns) wr (h.below hM.bl)
      obtain ⟨fr, hfr⟩ : ∃ fr, findP l (pathB ns) = fr := ⟨_, rfl⟩
      rw [hfr] at kb hE2
      have hTT : Aside (∀ d, fr = some d → toldN (namesP l) (pathB ns) 0 = d.n) := fun d q => by
        unfold toldN
        rw [if_pos rfl, find_names, hfr, q]
        rfl
      obtain ⟨pp, hppe⟩ : ∃ pp, pathB ns = pp := ⟨_, rfl⟩
      rw [hppe] at kb ⊢
      have i1 : ¬ (i : Int) < (i : Int) := by omega
      clear hway hw0 hfr ke kf htk hE hce hns hln
      replace hppe : Aside (pathB ns = pp) := hppe
      go_wp2_with fail
      refine kb.mono ?_
      rintro e W3 ⟨y, rfl, hy, hya, hB3, hyo⟩
      have hM3 := hM.then hB3
      have hlt2 : w.heap.size + 1 < wr.heap.size := hM.rs.2
      obtain ⟨W4, hW4, hth4, hbn, hB4⟩ := put_new W3 zN 36 y.cs (by rw [pn_len]; rfl) (by rw [pn_len]; omega)
      have hM4 := hM3.then hB4
      have hszy : (Tryd.prog.info? 36).map (·.size) = some y.cs.length := by rw [pn_len]; exact hszN
      replace hya := hya.below hB4
      clear kb hM hM3 hB3 ho
      cases fr with
      | none =>
        obtain rfl : E = 2 := hE2.symm
        clear hE2 hTT hy hya
        obtain ⟨W9, hW9, hth9, hk9, hb9⟩ := put_res hM4.rs zeroP hM4.bl (by omega)
        have hzz : zeroP.n = toldN (namesP l) (pathB ns) 2 := told_zero (by decide)
        have hza := zero_atM W9
        clear hbad
        as_aux_lemma =>
          go_wp2_with (first | (refine wpList_store_row rfl _ _ rfl W3.heap.size rfl y.cs rfl hth4 hszy (pn_one y) hW4 ?_) | (refine wpList_store_part rfl _ _ rfl (w.heap.size + 1) 0 rfl zeroP.cs rfl hth9 hsz (pn_one zeroP) hW9 ?_) | fail)
          refine bodyPost_ret (v := .tuple #[.agg zeroP.cs.toArray, .int .i64 2]) (results_row2 rfl _ _ (w.heap.size + 1) rfl (.int .i64 2) rfl zeroP.cs hk9.range hund rfl hsz) rfl ?_
          exact ⟨zeroP, rfl, hzz, hza, hb9, .inl rfl, .inl rfl⟩
      | some d =>
        obtain rfl : E = 0 := hE2.symm
        have hyt : y.n = toldN (namesP l) (pathB ns) 0 := by rw [hTT.out d rfl]; exact hy
        obtain ⟨W9, hW9, hth9, hk9, hb9⟩ := put_res hM4.rs y hM4.bl (by omega)
        have hrn := hbn.range
        replace hya : y.At W9 := by rw [← hW9]; exact hya.cells hyo hlt2 0 y.cs
        have hyw : y.Own w.heap.size W9 := hyo.lower (by omega) (by rw [← hW9]; exact Nat.le_trans hB4.size (cells_size _ _ _ _))
        clear hbad hE2 hTT hy
        as_aux_lemma =>
          go_wp2_with (first | (refine wpList_store_row rfl _ _ rfl W3.heap.size rfl y.cs rfl hth4 hszy (pn_one y) hW4 ?_) | (refine wpList_load_row rfl _ rfl W3.heap.size rfl y.cs hrn hund rfl hszy ?_) | (refine wpList_store_part rfl _ _ rfl (w.heap.size + 1) 0 rfl y.cs rfl hth9 hszy (pn_one y) hW9 ?_) | fail)
          refine bodyPost_ret (v := .tuple #[.agg y.cs.toArray, .int .i64 0]) (results_row2 rfl _ _ (w.heap.size + 1) rfl (.int .i64 0) rfl y.cs hk9.range hund rfl hszy) rfl ?_
          exact ⟨y, rfl, hyt, hya, hb9, hyw⟩
end Go.Proofs.YtapgjdmnlkedgaaDoor

/-! PACKAGE monitor AS IT LANDED: May, Change. Written by mk_monfns.py. -/
namespace Go.Proofs.YtapgjdmnlkedgaaDoor
open Go.RowKit
set_option maxRecDepth 8000
set_option linter.unusedSimpArgs false
set_option linter.unusedVariables false

/-- Its rows lie in other blocks. -/
def PN.Off (y : PN) (b : Nat) : Prop := InBlk y.aa (fun g => g ≠ b) ∧ InBlk y.wa (fun g => g ≠ b)
theorem PN.At.off {y : PN} {W : World} {g : Nat} (h : y.At W) (ho : y.Off g) (o : Nat) (vs : List Value) : y.At (W.setCells g o vs) :=
  ⟨grs_keep h.g (ho.1.imp fun k hk => heap_setCells_other (b := g) (k := k) hk vs o W), wrds_keep h.w (ho.2.imp fun k hk => heap_setCells_other (b := g) (k := k) hk vs o W)⟩
theorem PN.Own.off {y : PN} {W : World} {b g : Nat} (h : y.Own b W) (hg : g < b ∨ W.heap.size ≤ g) : y.Off g := ⟨h.1.imp fun k hk => by omega, h.2.imp fun k hk => by omega⟩
set_option maxRecDepth 20000 in
set_option maxHeartbeats 8000000 in
theorem mmay_any (a : Option Addr) (cap : Nat) (l : List PN) (u : ByteArray) (t : Lab) (p : ByteArray) (m : Int) (hF : FineL l) (hGt : GL t) (hp : p.size ≤ 1000) (w : World) (h : RowN w a l) (hV : MaxV w) :
    Calls Tryd.prog 17 #[.slice a l.length cap, .agg (sbL u t).toArray, .string p, .int .i64 m] w fun e w' => ∃ f : PN, e = .returned (.tuple #[.agg f.cs.toArray, .int .i64 (mayE (namesP l) u t p m)]) ∧ f.n = toldN (namesP l) p (mayE (namesP l) u t p m) ∧ f.At w' ∧ Below w.heap.size w w' ∧ f.Own w.heap.size w' := by
  have hund := Tryd.underlying36
  have hundM := Tryd.underlying47
  have hsz : (Tryd.prog.info? 36).map (·.size) = some zeroP.cs.length := by kernel_rfl
  have hszN : (Tryd.prog.info? 36).map (·.size) = some 16 := by kernel_rfl
  have hsm : (Tryd.prog.info? 47).map (·.size) = some 5 := by kernel_rfl
  have ks := fun W (r : RowN W a l) (q : MaxV W) => msee_any a cap l u t p hF hGt hp W r q
  obtain ⟨E, hE⟩ : ∃ E, mayE (namesP l) u t p m = E := ⟨_, rfl⟩
  rw [hE]
  unfold mayE at hE
  obtain ⟨n, hn⟩ : ∃ n, l.length = n := ⟨_, rfl⟩
  rw [hn] at ks ⊢
  replace hn : Aside (l.length = n) := hn
  have h0 := ms_startM w u t
  have hbad := True.intro
  by_cases hm : m < 1 ∨ 7 < m
  · rw [if_pos hm] at hE
    subst hE
    clear ks
    by_cases hm1 : m < 1
    · go_enter Tryd.func17, Tryd.ntmps17
      go_upto_region 2 with fail
      generalize (w.alloc (.cells (sbL u t).toArray 47)).alloc (.cells zN 36) = W0 at *
      obtain ⟨W9, hW9, hth9, hk9, hb9⟩ := put_res h0.rs zeroP h0.bl (by omega)
      have hzz : zeroP.n = toldN (namesP l) p 1 := told_zero (by decide)
      have hza := zero_atM W9
      clear hbad
      as_aux_lemma =>
        go_wp2_with (first | (refine wpList_store_part rfl _ _ rfl (w.heap.size + 1) 0 rfl zeroP.cs rfl hth9 hsz (pn_one zeroP) hW9 ?_) | fail)
        refine bodyPost_ret (v := .tuple #[.agg zeroP.cs.toArray, .int .i64 1]) (results_row2 rfl _ _ (w.heap.size + 1) rfl (.int .i64 1) rfl zeroP.cs hk9.range hund rfl hsz) rfl ?_
        exact ⟨zeroP, rfl, hzz, hza, hb9, .inl rfl, .inl rfl⟩
    · have hm7 : 7 < m := by omega
      go_enter Tryd.func17, Tryd.ntmps17
      go_upto_region 2 with fail
      generalize (w.alloc (.cells (sbL u t).toArray 47)).alloc (.cells zN 36) = W0 at *
      obtain ⟨W9, hW9, hth9, hk9, hb9⟩ := put_res h0.rs zeroP h0.bl (by omega)
      have hzz : zeroP.n = toldN (namesP l) p 1 := told_zero (by decide)
      have hza := zero_atM W9
      clear hbad
      as_aux_lemma =>
        go_wp2_with (first | (refine wpList_store_part rfl _ _ rfl (w.heap.size + 1) 0 rfl zeroP.cs rfl hth9 hsz (pn_one zeroP) hW9 ?_) | fail)
        refine bodyPost_ret (v := .tuple #[.agg zeroP.cs.toArray, .int .i64 1]) (results_row2 rfl _ _ (w.heap.size + 1) rfl (.int .i64 1) rfl zeroP.cs hk9.range hund rfl hsz) rfl ?_
        exact ⟨zeroP, rfl, hzz, hza, hb9, .inl rfl, .inl rfl⟩
  rw [if_neg hm] at hE
  have hm1 : ¬ m < 1 := by omega
  have hm7 : ¬ 7 < m := by omega
  clear hm
  obtain ⟨SE, hSE⟩ : ∃ SE, seeE (namesP l) t p = SE := ⟨_, rfl⟩
  rw [hSE] at hE ks
  have hrs := h0.bx.range
  go_enter Tryd.func17, Tryd.ntmps17
  go_upto_region 3 with fail
  generalize (w.alloc (.cells (sbL u t).toArray 47)).alloc (.cells zN 36) = W0 at *
  go_wp2_with (first | (refine wpList_load_row rfl _ rfl w.heap.size rfl (sbL u t) hrs hundM rfl hsm ?_) | fail)
  refine (ks W0 (h.below h0.bl) (hV.below h0.bl)).mono ?_
  rintro e W2 ⟨f, rfl, hfn, hfa, hB2, hfo⟩
  have hM2 := h0.then hB2
  have hlt2 : w.heap.size + 1 < W0.heap.size := h0.rs.2
  obtain ⟨W4, hW4, hth4, hbn, hB4⟩ := put_new W2 zN 36 f.cs (by rw [pn_len]; rfl) (by rw [pn_len]; omega)
  have hM4 := hM2.then hB4
  replace hfa := hfa.below hB4
  replace hfo : f.Own (w.heap.size + 2) W4 := hfo.lower (by omega) hB4.size
  clear ks h0 hrs hB2 hM2 hB4
  go_upto_region 4 with (first | (refine wpList_store_row rfl _ _ rfl W2.heap.size rfl f.cs rfl hth4 (by rw [pn_len]; exact hszN) (pn_one f) hW4 ?_) | fail)
  generalize W2.heap.size = bn at *
  clear hth4 hW4
  by_cases hs0 : SE = 0
  rotate_left
  · rw [if_pos hs0] at hE
    subst hE
    clear hfn
    obtain ⟨W9, hW9, hth9, hk9, hb9⟩ := put_res hM4.rs zeroP hM4.bl (by omega)
    have hzz : zeroP.n = toldN (namesP l) p SE := told_zero hs0
    have hza := zero_atM W9
    clear hbad
    as_aux_lemma =>
      go_wp2_with (first | (refine wpList_store_part rfl _ _ rfl (w.heap.size + 1) 0 rfl zeroP.cs rfl hth9 hsz (pn_one zeroP) hW9 ?_) | fail)
      refine bodyPost_ret (v := .tuple #[.agg zeroP.cs.toArray, .int .i64 SE]) (results_row2 rfl _ _ (w.heap.size + 1) rfl (.int .i64 SE) rfl zeroP.cs hk9.range hund rfl hsz) rfl ?_
      exact ⟨zeroP, rfl, hzz, hza, hb9, .inl rfl, .inl rfl⟩
  subst hs0
  obtain ⟨d, hfd⟩ := see_find hSE
  have hdm := findP_in hfd
  rw [if_neg (by simp), find_names, hfd] at hE
  have hfd2 : f.n = d.n := by
    rw [hfn]
    unfold toldN
    rw [if_pos rfl, find_names, hfd]
    rfl
  replace hE : modE d.n u t m = E := hE
  rw [← hfd2] at hE
  have ku := muse_any f u t m (by omega) (by omega) hGt (by rw [hfd2]; exact hF.lab hdm) (by rw [hfd2]; exact hF.acl d hdm) W4 hfa
  rw [hE] at ku
  have hrs := hM4.bx.range
  have hrf := hbn.range
  have hszf : (Tryd.prog.info? 36).map (·.size) = some f.cs.length := by rw [pn_len]; exact hszN
  replace hSE : Aside _ := hSE
  replace hfd : Aside _ := hfd
  replace hfd2 : Aside _ := hfd2
  replace hfn : Aside _ := hfn
  clear hE
  go_wp2_with (first | (refine wpList_load_row rfl _ rfl bn rfl f.cs hrf hund rfl hszf ?_) | (refine wpList_load_row rfl _ rfl w.heap.size rfl (sbL u t) hrs hundM rfl hsm ?_) | fail)
  refine ku.mono ?_
  rintro e W5 ⟨rfl, hB5⟩
  have hM5 := hM4.then hB5
  replace hbn := stab_blk _ _ _ _ hbn hB5
  replace hfa := hfa.below hB5
  replace hfo := hfo.lower (Nat.le_refl _) hB5.size
  clear ku hrs hrf hM4 hB5 hszf
  by_cases hs0 : E = 0
  rotate_left
  · clear hfn hfd2 hfd hSE
    obtain ⟨W9, hW9, hth9, hk9, hb9⟩ := put_res hM5.rs zeroP hM5.bl (by omega)
    have hzz : zeroP.n = toldN (namesP l) p E := told_zero hs0
    have hza := zero_atM W9
    clear hbad
    as_aux_lemma =>
      go_wp2_with (first | (refine wpList_store_part rfl _ _ rfl (w.heap.size + 1) 0 rfl zeroP.cs rfl hth9 hsz (pn_one zeroP) hW9 ?_) | fail)
      refine bodyPost_ret (v := .tuple #[.agg zeroP.cs.toArray, .int .i64 E]) (results_row2 rfl _ _ (w.heap.size + 1) rfl (.int .i64 E) rfl zeroP.cs hk9.range hund rfl hsz) rfl ?_
      exact ⟨zeroP, rfl, hzz, hza, hb9, .inl rfl, .inl rfl⟩
  subst hs0
  obtain ⟨W9, hW9, hth9, hk9, hb9⟩ := put_res hM5.rs f hM5.bl (by omega)
  have hrn := hbn.range
  have hszf : (Tryd.prog.info? 36).map (·.size) = some f.cs.length := by rw [pn_len]; exact hszN
  have hfa9 : f.At W9 := by rw [← hW9]; exact hfa.cells hfo (by omega) 0 f.cs
  have hfw : f.Own w.heap.size W9 := hfo.lower (by omega) (by rw [← hW9]; exact cells_size _ _ _ _)
  have hft : f.n = toldN (namesP l) p 0 := hfn.out
  clear hbad
  as_aux_lemma =>
    go_wp2_with (first | (refine wpList_load_row rfl _ rfl bn rfl f.cs hrn hund rfl hszf ?_) | (refine wpList_store_part rfl _ _ rfl (w.heap.size + 1) 0 rfl f.cs rfl hth9 hszf (pn_one f) hW9 ?_) | fail)
    refine bodyPost_ret (v := .tuple #[.agg f.cs.toArray, .int .i64 0]) (results_row2 rfl _ _ (w.heap.size + 1) rfl (.int .i64 0) rfl f.cs hk9.range hund rfl hszf) rfl ?_
    exact ⟨f, rfl, hft, hfa9, hb9, hfw⟩
set_option maxRecDepth 20000 in
set_option maxHeartbeats 8000000 in
theorem mchg_any (a : Option Addr) (cap : Nat) (l : List PN) (u : ByteArray) (t : Lab) (p : ByteArray) (hF : FineL l) (hGt : GL t) (hp : p.size ≤ 1000) (w : World) (h : RowN w a l) (hV : MaxV w) :
    Calls Tryd.prog 22 #[.slice a l.length cap, .agg (sbL u t).toArray, .string p] w fun e w' => ∃ f : PN, e = .returned (.tuple #[.agg f.cs.toArray, .int .i64 (chgE (namesP l) u t p)]) ∧ f.n = toldN (namesP l) (parentOf p) (chgE (namesP l) u t p) ∧ f.At w' ∧ Below w.heap.size w w' ∧ f.Own w.heap.size w' := by
  have hund := Tryd.underlying36
  have hundM := Tryd.underlying47
  have hsz : (Tryd.prog.info? 36).map (·.size) = some zeroP.cs.length := by kernel_rfl
  have hszN : (Tryd.prog.info? 36).map (·.size) = some 16 := by kernel_rfl
  have hsm : (Tryd.prog.info? 47).map (·.size) = some 5 := by kernel_rfl
  have kc := fun W (q : MaxV W) => pcheck_any p (by omega) W q
  have hps : (parentOf p).size ≤ 1000 := by
    have h1 := slashTo_le p p.size
    unfold parentOf
    split
    · decide
    · split
      · decide
      · rw [ByteArray.size_extract]
        omega
  have kmay := fun W (r : RowN W a l) (q : MaxV W) => mmay_any a cap l u t (parentOf p) 2 hF hGt hps W r q
  obtain ⟨E, hE⟩ : ∃ E, chgE (namesP l) u t p = E := ⟨_, rfl⟩
  rw [hE]
  unfold chgE at hE
  obtain ⟨n, hn⟩ : ∃ n, l.length = n := ⟨_, rfl⟩
  rw [hn] at kmay ⊢
  replace hn : Aside (l.length = n) := hn
  have h0 := ms_startM w u t
  have hbad := True.intro
  generalize hce : checkOf p = ce at *
  go_enter Tryd.func22, Tryd.ntmps22
  go_wp2_with fail
  generalize (w.alloc (.cells (sbL u t).toArray 47)).alloc (.cells zN 36) = W0 at *
  refine (kc W0 (hV.below h0.bl)).mono ?_
  rintro e W1 ⟨rfl, hB1⟩
  have h1 := h0.then hB1
  clear kc h0 hB1
  by_cases hs0 : ce = 0
  rotate_left
  · rw [if_pos hs0] at hE
    subst hE
    clear kmay
    obtain ⟨W9, hW9, hth9, hk9, hb9⟩ := put_res h1.rs zeroP h1.bl (by omega)
    have hzz : zeroP.n = toldN (namesP l) (parentOf p) ce := told_zero hs0
    have hza := zero_atM W9
    clear hbad
    as_aux_lemma =>
      go_wp2_with (first | (refine wpList_store_part rfl _ _ rfl (w.heap.size + 1) 0 rfl zeroP.cs rfl hth9 hsz (pn_one zeroP) hW9 ?_) | fail)
      refine bodyPost_ret (v := .tuple #[.agg zeroP.cs.toArray, .int .i64 ce]) (results_row2 rfl _ _ (w.heap.size + 1) rfl (.int .i64 ce) rfl zeroP.cs hk9.range hund rfl hsz) rfl ?_
      exact ⟨zeroP, rfl, hzz, hza, hb9, .inl rfl, .inl rfl⟩
  subst hs0
  rw [if_neg (by simp)] at hE
  have hfirst : (bytes p).getD 0 0 = 47 := by
    obtain ⟨ns, hns, rfl, _⟩ := check_path hce
    exact check_first hns
  have kpar := fun W => parent_any p (by omega) hfirst W
  clear hfirst hce
  cases hsl : eqs p slashS
  rotate_left
  · have f0 : (p.toList == [47]) = true := by rw [← eqs_lit true hsl]
    rw [hsl, if_pos rfl] at hE
    subst hE
    clear kmay kpar
    obtain ⟨W9, hW9, hth9, hk9, hb9⟩ := put_res h1.rs zeroP h1.bl (by omega)
    have hzz : zeroP.n = toldN (namesP l) (parentOf p) 1 := told_zero (by decide)
    have hza := zero_atM W9
    clear hbad
    as_aux_lemma =>
      go_wp2_with (first | (refine wpList_store_part rfl _ _ rfl (w.heap.size + 1) 0 rfl zeroP.cs rfl hth9 hsz (pn_one zeroP) hW9 ?_) | fail)
      refine bodyPost_ret (v := .tuple #[.agg zeroP.cs.toArray, .int .i64 1]) (results_row2 rfl _ _ (w.heap.size + 1) rfl (.int .i64 1) rfl zeroP.cs hk9.range hund rfl hsz) rfl ?_
      exact ⟨zeroP, rfl, hzz, hza, hb9, .inl rfl, .inl rfl⟩
  have f0 : (p.toList == [47]) = false := by rw [← eqs_lit false hsl]
  rw [hsl, if_neg (by decide)] at hE
  obtain ⟨pp, hpp⟩ : ∃ pp, parentOf p = pp := ⟨_, rfl⟩
  rw [hpp] at hE kpar kmay
  obtain ⟨ME, hME⟩ : ∃ ME, mayE (namesP l) u t pp 2 = ME := ⟨_, rfl⟩
  rw [hME] at hE kmay
  replace hpp : Aside (parentOf p = pp) := hpp
  clear hsl hps
  go_upto_region 6 with fail
  generalize hZ : W1 = Z at *
  clear hZ
  have hMz := h1
  clear h1
  go_cut [10, 9] from 20 (fun s10 s9 wc => s10 = .int .i64 ME ∧ ∃ (f : PN) (bn : Nat), s9 = .pointer (some ⟨bn, 0, none⟩) ∧ MS w wc u t ∧ BlkL bn f.cs wc ∧ f.n = toldN (namesP l) pp ME ∧ f.At wc ∧ f.Own (w.heap.size + 2) wc)
  case first =>
    clear hbad hE hME hpp
    refine wp_region_held_drew (S := (fun W => BlkL w.heap.size (sbL u t) W)) (by kernel_rfl) (by exact stab_blk _ _ _ _ hMz.bx (Below.refl Z.heap.size Z).drew) ?_
    intro hHeld
    have hM0 := hMz.then (Below.refl Z.heap.size Z).drew
    generalize Z.drew = w0 at *
    refine wpAnyH_take (i := 0) (v := ?_) (by simp only [gA, gB, gC]; rfl) (by kernel_rfl) (by kernel_rfl) (by kernel_rfl) (by exact fun _ _ _ h => h) (Or.inl ⟨by rfl, ?_⟩) (by assumption) ?_; rotate_left; (focus (intro w hSw; (try dsimp only at hSw); go_simp; try with_reducible rfl)); (try simp only [Act.put, sA, sB, sC])
    refine wpAnyH_take (i := 1) (v := _) (by simp only [gA, gB, gC]; rfl) (by kernel_rfl) (by kernel_rfl) (by kernel_rfl) (by exact fun _ _ _ h => h) (yields_row (by rfl) _ rfl w.heap.size rfl (sbL u t) (fun _ q => q.range) hundM rfl hsm) (by assumption) ?_; (try simp only [Act.put, sA, sB, sC])
    refine wpAnyH_take (i := 2) (v := ?_) (by simp only [gA, gB, gC]; rfl) (by kernel_rfl) (by kernel_rfl) (by kernel_rfl) (by exact fun _ _ _ h => h) (Or.inl ⟨by rfl, ?_⟩) (by assumption) ?_; rotate_left; (focus (intro w hSw; (try dsimp only at hSw); go_simp; try with_reducible rfl)); (try simp only [Act.put, sA, sB, sC])
    refine wpAnyH_ready (rs := [3, 8]) (by kernel_rfl) (by simp) ?_
    refine AllReadyH.cons (by simp only [gA, gB, gC]; rfl) (fun K hK => ?_) ?_
    · go_simp
      go_at_call 39
      refine (kpar _).mono ?_
      rintro e w1 ⟨rfl, hww⟩
      have hb : Below w0.heap.size w0 w1 := by rw [hww]; exact Below.refl _ _
      have hM1 := hM0.then hb
      clear hb hww
      refine hK.out _ _ (hM1.bx) ?_
      clear hHeld hK
      intro hHeld
      (try simp only [Act.put, sA, sB, sC])
      refine wpAnyH_ready (rs := [4, 8]) (by kernel_rfl) (by simp) ?_
      refine AllReadyH.cons (by simp only [gA, gB, gC]; rfl) (fun K hK => ?_) ?_
      · go_simp
        go_at_call 17
        refine (kmay _ (h.below hM1.bl) (hV.below hM1.bl)).mono ?_
        rintro e w2 ⟨f, rfl, hfn, hfa2, hb, hfo⟩
        have hfo2 := hfo.lower (c := w.heap.size + 2) (W' := w2) (by have := hM1.rs.2; omega) (Nat.le_refl _)
        clear hfo
        have hM2 := hM1.then hb
        clear hb
        refine hK.out _ _ (hM2.bx) ?_
        clear hHeld hK
        intro hHeld
        (try simp only [Act.put, sA, sB, sC])
        refine wpAnyH_take (i := 5) (v := ?_) (by simp only [gA, gB, gC]; rfl) (by kernel_rfl) (by kernel_rfl) (by kernel_rfl) (by exact fun _ _ _ h => h) (Or.inl ⟨by rfl, ?_⟩) (by assumption) ?_; rotate_left; (focus (intro w hSw; (try dsimp only at hSw); go_simp; try with_reducible rfl)); (try simp only [Act.put, sA, sB, sC])
        refine wpAnyH_take (i := 6) (v := ?_) (by simp only [gA, gB, gC]; rfl) (by kernel_rfl) (by kernel_rfl) (by kernel_rfl) (by exact fun _ _ _ h => h) (Or.inl ⟨by rfl, ?_⟩) (by assumption) ?_; rotate_left; (focus (intro w hSw; (try dsimp only at hSw); go_simp; try with_reducible rfl)); (try simp only [Act.put, sA, sB, sC])
        refine wpAnyH_take (i := 7) (v := ?_) (by simp only [gA, gB, gC]; rfl) (by kernel_rfl) (by kernel_rfl) (by kernel_rfl) (by exact fun _ _ _ h => h) (Or.inl ⟨by rfl, ?_⟩) (by assumption) ?_; rotate_left; (focus (intro w hSw; (try dsimp only at hSw); go_simp; try with_reducible rfl)); (try simp only [Act.put, sA, sB, sC])
        refine wpAnyH_ready (rs := [8]) (by kernel_rfl) (by simp) ?_
        refine AllReadyH.cons (by simp only [gA, gB, gC]; rfl) (fun K hK => ?_) AllReadyH.nil
        go_simp
        refine hK.out _ _ ((hM2.then (alloc_below _ _)).bx) ?_
        clear hHeld hK
        intro hHeld
        have hn3 := blkl_alloc w2 zN 36
        have hM3 := hM2.then (alloc_below w2 (.cells zN 36))
        have hfa3 := hfa2.below (alloc_below w2 (.cells zN 36))
        have hoff := hfo2.off (g := w2.heap.size) (.inr (Nat.le_refl _))
        have hfo3 := hfo2.lower (Nat.le_refl _) (alloc_below w2 (.cells zN 36)).size
        have hbn : w.heap.size + 2 ≤ w2.heap.size := by have := hM2.rs.2; omega
        generalize hwx : w2.alloc (.cells zN 36) = w3 at *
        clear hwx
        generalize w2.heap.size = bn at *
        (try simp only [Act.put, sA, sB, sC])
        refine wpAnyH_ready (rs := [9]) (by kernel_rfl) (by simp) ?_
        refine AllReadyH.cons (by simp only [gA, gB, gC]; rfl) (fun K hK => ?_) AllReadyH.nil
        obtain ⟨w4, hwz, hthz, hn4, hbz⟩ := put_mid hn3 0 f.cs (by rw [pn_len]; decide) (by decide) hM3.bl (by omega)
        replace hn4 : BlkL bn f.cs w4 := hn4
        have hM4 : MS w w4 u t := ⟨hbz, hM3.bx.other hwz (by omega), hM3.rs.other hwz (by omega)⟩
        have hfa4 : f.At w4 := by rw [← hwz]; exact hfa3.off hoff 0 f.cs
        have hfo4 : f.Own (w.heap.size + 2) w4 := hfo3.lower (Nat.le_refl _) (by rw [← hwz]; exact cells_size _ _ _ _)
        refine step_store_part rfl _ _ rfl bn 0 rfl f.cs rfl hthz (by rw [pn_len]; exact hszN) (pn_one f) hwz ?_
        (try simp only [Act.put, sA, sB, sC])
        refine hK.out _ _ (hM4.bx) ?_
        clear hHeld hK
        intro hHeld
        (try simp only [Act.put, sA, sB, sC])
        refine wpAnyH_take (i := 10) (v := ?_) (by simp only [gA, gB, gC]; rfl) (by kernel_rfl) (by kernel_rfl) (by kernel_rfl) (by exact fun _ _ _ h => h) (Or.inl ⟨by rfl, ?_⟩) (by assumption) ?_; rotate_left; (focus (intro w hSw; (try dsimp only at hSw); go_simp; try with_reducible rfl)); (try simp only [Act.put, sA, sB, sC])
        refine wpAnyH_done (by kernel_rfl) ?_ _
        go_wp2_with fail
        go_meet
        exact ⟨rfl, f, bn, rfl, hM4, hn4, hfn, hfa4, hfo4⟩
      refine AllReadyH.cons (by simp only [gA, gB, gC]; rfl) (fun K hK => ?_) AllReadyH.nil
      go_simp
      refine hK.out _ _ ((hM1.then (alloc_below _ _)).bx) ?_
      clear hHeld hK
      intro hHeld
      have hn2 := blkl_alloc w1 zN 36
      have hM2 := hM1.then (alloc_below w1 (.cells zN 36))
      have hbn : w.heap.size + 2 ≤ w1.heap.size := by have := hM1.rs.2; omega
      generalize hwx : w1.alloc (.cells zN 36) = w2 at *
      clear hwx
      generalize w1.heap.size = bn at *
      (try simp only [Act.put, sA, sB, sC])
      refine wpAnyH_ready (rs := [4]) (by kernel_rfl) (by simp) ?_
      refine AllReadyH.cons (by simp only [gA, gB, gC]; rfl) (fun K hK => ?_) AllReadyH.nil
      go_simp
      go_at_call 17
      refine (kmay _ (h.below hM2.bl) (hV.below hM2.bl)).mono ?_
      rintro e w3 ⟨f, rfl, hfn, hfa3, hb, hfo⟩
      have hfo3 := hfo.lower (c := w.heap.size + 2) (W' := w3) (by have := hM2.rs.2; omega) (Nat.le_refl _)
      have hoff := hfo.off (g := bn) (.inl hn2.2)
      clear hfo
      have hM3 := hM2.then hb
      have hn3 := stab_blk _ _ _ _ hn2 hb
      clear hb
      refine hK.out _ _ (hM3.bx) ?_
      clear hHeld hK
      intro hHeld
      (try simp only [Act.put, sA, sB, sC])
      refine wpAnyH_take (i := 5) (v := ?_) (by simp only [gA, gB, gC]; rfl) (by kernel_rfl) (by kernel_rfl) (by kernel_rfl) (by exact fun _ _ _ h => h) (Or.inl ⟨by rfl, ?_⟩) (by assumption) ?_; rotate_left; (focus (intro w hSw; (try dsimp only at hSw); go_simp; try with_reducible rfl)); (try simp only [Act.put, sA, sB, sC])
      refine wpAnyH_take (i := 6) (v := ?_) (by simp only [gA, gB, gC]; rfl) (by kernel_rfl) (by kernel_rfl) (by kernel_rfl) (by exact fun _ _ _ h => h) (Or.inl ⟨by rfl, ?_⟩) (by assumption) ?_; rotate_left; (focus (intro w hSw; (try dsimp only at hSw); go_simp; try with_reducible rfl)); (try simp only [Act.put, sA, sB, sC])
      refine wpAnyH_take (i := 7) (v := ?_) (by simp only [gA, gB, gC]; rfl) (by kernel_rfl) (by kernel_rfl) (by kernel_rfl) (by exact fun _ _ _ h => h) (Or.inl ⟨by rfl, ?_⟩) (by assumption) ?_; rotate_left; (focus (intro w hSw; (try dsimp only at hSw); go_simp; try with_reducible rfl)); (try simp only [Act.put, sA, sB, sC])
      refine wpAnyH_ready (rs := [9]) (by kernel_rfl) (by simp) ?_
      refine AllReadyH.cons (by simp only [gA, gB, gC]; rfl) (fun K hK => ?_) AllReadyH.nil
      obtain ⟨w4, hwz, hthz, hn4, hbz⟩ := put_mid hn3 0 f.cs (by rw [pn_len]; decide) (by decide) hM3.bl (by omega)
      replace hn4 : BlkL bn f.cs w4 := hn4
      have hM4 : MS w w4 u t := ⟨hbz, hM3.bx.other hwz (by omega), hM3.rs.other hwz (by omega)⟩
      have hfa4 : f.At w4 := by rw [← hwz]; exact hfa3.off hoff 0 f.cs
      have hfo4 : f.Own (w.heap.size + 2) w4 := hfo3.lower (Nat.le_refl _) (by rw [← hwz]; exact cells_size _ _ _ _)
      refine step_store_part rfl _ _ rfl bn 0 rfl f.cs rfl hthz (by rw [pn_len]; exact hszN) (pn_one f) hwz ?_
      (try simp only [Act.put, sA, sB, sC])
      refine hK.out _ _ (hM4.bx) ?_
      clear hHeld hK
      intro hHeld
      (try simp only [Act.put, sA, sB, sC])
      refine wpAnyH_take (i := 10) (v := ?_) (by simp only [gA, gB, gC]; rfl) (by kernel_rfl) (by kernel_rfl) (by kernel_rfl) (by exact fun _ _ _ h => h) (Or.inl ⟨by rfl, ?_⟩) (by assumption) ?_; rotate_left; (focus (intro w hSw; (try dsimp only at hSw); go_simp; try with_reducible rfl)); (try simp only [Act.put, sA, sB, sC])
      refine wpAnyH_done (by kernel_rfl) ?_ _
      go_wp2_with fail
      go_meet
      exact ⟨rfl, f, bn, rfl, hM4, hn4, hfn, hfa4, hfo4⟩
    refine AllReadyH.cons (by simp only [gA, gB, gC]; rfl) (fun K hK => ?_) AllReadyH.nil
    go_simp
    refine hK.out _ _ ((hM0.then (alloc_below _ _)).bx) ?_
    clear hHeld hK
    intro hHeld
    have hn1 := blkl_alloc w0 zN 36
    have hM1 := hM0.then (alloc_below w0 (.cells zN 36))
    have hbn : w.heap.size + 2 ≤ w0.heap.size := by have := hM0.rs.2; omega
    generalize hwx : w0.alloc (.cells zN 36) = w1 at *
    clear hwx
    generalize w0.heap.size = bn at *
    (try simp only [Act.put, sA, sB, sC])
    refine wpAnyH_ready (rs := [3]) (by kernel_rfl) (by simp) ?_
    refine AllReadyH.cons (by simp only [gA, gB, gC]; rfl) (fun K hK => ?_) AllReadyH.nil
    go_simp
    go_at_call 39
    refine (kpar _).mono ?_
    rintro e w2 ⟨rfl, hww⟩
    have hb : Below w1.heap.size w1 w2 := by rw [hww]; exact Below.refl _ _
    have hM2 := hM1.then hb
    have hn2 := stab_blk _ _ _ _ hn1 hb
    clear hb hww
    refine hK.out _ _ (hM2.bx) ?_
    clear hHeld hK
    intro hHeld
    (try simp only [Act.put, sA, sB, sC])
    refine wpAnyH_ready (rs := [4]) (by kernel_rfl) (by simp) ?_
    refine AllReadyH.cons (by simp only [gA, gB, gC]; rfl) (fun K hK => ?_) AllReadyH.nil
    go_simp
    go_at_call 17
    refine (kmay _ (h.below hM2.bl) (hV.below hM2.bl)).mono ?_
    rintro e w3 ⟨f, rfl, hfn, hfa3, hb, hfo⟩
    have hfo3 := hfo.lower (c := w.heap.size + 2) (W' := w3) (by have := hM2.rs.2; omega) (Nat.le_refl _)
    have hoff := hfo.off (g := bn) (.inl hn2.2)
    clear hfo
    have hM3 := hM2.then hb
    have hn3 := stab_blk _ _ _ _ hn2 hb
    clear hb
    refine hK.out _ _ (hM3.bx) ?_
    clear hHeld hK
    intro hHeld
    (try simp only [Act.put, sA, sB, sC])
    refine wpAnyH_take (i := 5) (v := ?_) (by simp only [gA, gB, gC]; rfl) (by kernel_rfl) (by kernel_rfl) (by kernel_rfl) (by exact fun _ _ _ h => h) (Or.inl ⟨by rfl, ?_⟩) (by assumption) ?_; rotate_left; (focus (intro w hSw; (try dsimp only at hSw); go_simp; try with_reducible rfl)); (try simp only [Act.put, sA, sB, sC])
    refine wpAnyH_take (i := 6) (v := ?_) (by simp only [gA, gB, gC]; rfl) (by kernel_rfl) (by kernel_rfl) (by kernel_rfl) (by exact fun _ _ _ h => h) (Or.inl ⟨by rfl, ?_⟩) (by assumption) ?_; rotate_left; (focus (intro w hSw; (try dsimp only at hSw); go_simp; try with_reducible rfl)); (try simp only [Act.put, sA, sB, sC])
    refine wpAnyH_take (i := 7) (v := ?_) (by simp only [gA, gB, gC]; rfl) (by kernel_rfl) (by kernel_rfl) (by kernel_rfl) (by exact fun _ _ _ h => h) (Or.inl ⟨by rfl, ?_⟩) (by assumption) ?_; rotate_left; (focus (intro w hSw; (try dsimp only at hSw); go_simp; try with_reducible rfl)); (try simp only [Act.put, sA, sB, sC])
    refine wpAnyH_ready (rs := [9]) (by kernel_rfl) (by simp) ?_
    refine AllReadyH.cons (by simp only [gA, gB, gC]; rfl) (fun K hK => ?_) AllReadyH.nil
    obtain ⟨w4, hwz, hthz, hn4, hbz⟩ := put_mid hn3 0 f.cs (by rw [pn_len]; decide) (by decide) hM3.bl (by omega)
    replace hn4 : BlkL bn f.cs w4 := hn4
    have hM4 : MS w w4 u t := ⟨hbz, hM3.bx.other hwz (by omega), hM3.rs.other hwz (by omega)⟩
    have hfa4 : f.At w4 := by rw [← hwz]; exact hfa3.off hoff 0 f.cs
    have hfo4 : f.Own (w.heap.size + 2) w4 := hfo3.lower (Nat.le_refl _) (by rw [← hwz]; exact cells_size _ _ _ _)
    refine step_store_part rfl _ _ rfl bn 0 rfl f.cs rfl hthz (by rw [pn_len]; exact hszN) (pn_one f) hwz ?_
    (try simp only [Act.put, sA, sB, sC])
    refine hK.out _ _ (hM4.bx) ?_
    clear hHeld hK
    intro hHeld
    (try simp only [Act.put, sA, sB, sC])
    refine wpAnyH_take (i := 10) (v := ?_) (by simp only [gA, gB, gC]; rfl) (by kernel_rfl) (by kernel_rfl) (by kernel_rfl) (by exact fun _ _ _ h => h) (Or.inl ⟨by rfl, ?_⟩) (by assumption) ?_; rotate_left; (focus (intro w hSw; (try dsimp only at hSw); go_simp; try with_reducible rfl)); (try simp only [Act.put, sA, sB, sC])
    refine wpAnyH_done (by kernel_rfl) ?_ _
    go_wp2_with fail
    go_meet
    exact ⟨rfl, f, bn, rfl, hM4, hn4, hfn, hfa4, hfo4⟩
  case rest =>
    obtain ⟨rfl, f, bn, rfl, hM, hbn, hfn, hfa, hfo⟩ := hcut
    clear kmay kpar hMz
    by_cases hs0 : ME = 0
    rotate_left
    · rw [if_pos hs0] at hE
      subst hE
      obtain ⟨W9, hW9, hth9, hk9, hb9⟩ := put_res hM.rs zeroP hM.bl (by omega)
      have hzz : zeroP.n = toldN (namesP l) (parentOf p) ME := told_zero hs0
      have hza := zero_atM W9
      clear hbad
      as_aux_lemma =>
        go_wp2_with (first | (refine wpList_store_part rfl _ _ rfl (w.heap.size + 1) 0 rfl zeroP.cs rfl hth9 hsz (pn_one zeroP) hW9 ?_) | fail)
        refine bodyPost_ret (v := .tuple #[.agg zeroP.cs.toArray, .int .i64 ME]) (results_row2 rfl _ _ (w.heap.size + 1) rfl (.int .i64 ME) rfl zeroP.cs hk9.range hund rfl hsz) rfl ?_
        exact ⟨zeroP, rfl, hzz, hza, hb9, .inl rfl, .inl rfl⟩
    subst hs0
    rw [if_neg (by simp)] at hE
    have hfd : (findN (namesP l) pp).getD zeroN = f.n := by
      rw [hfn]
      unfold toldN
      rw [if_pos rfl]
    rw [hfd] at hE
    have hz1 := (hbn.1 1 _ rfl).1
    replace hfn : Aside _ := hfn
    clear hME hfd
    cases hd : f.n.dir
    · rw [hd] at hz1
      rw [if_pos hd] at hE
      subst hE
      obtain ⟨W9, hW9, hth9, hk9, hb9⟩ := put_res hM.rs zeroP hM.bl (by omega)
      have hzz : zeroP.n = toldN (namesP l) (parentOf p) 3 := told_zero (by decide)
      have hza := zero_atM W9
      clear hbad
      as_aux_lemma =>
        go_wp2_with (first | (refine wpList_store_part rfl _ _ rfl (w.heap.size + 1) 0 rfl zeroP.cs rfl hth9 hsz (pn_one zeroP) hW9 ?_) | fail)
        refine bodyPost_ret (v := .tuple #[.agg zeroP.cs.toArray, .int .i64 3]) (results_row2 rfl _ _ (w.heap.size + 1) rfl (.int .i64 3) rfl zeroP.cs hk9.range hund rfl hsz) rfl ?_
        exact ⟨zeroP, rfl, hzz, hza, hb9, .inl rfl, .inl rfl⟩
    · rw [hd] at hz1
      rw [if_neg (by rw [hd]; decide)] at hE
      subst hE
      obtain ⟨W9, hW9, hth9, hk9, hb9⟩ := put_res hM.rs f hM.bl (by omega)
      have hrn := hbn.range
      have hszf : (Tryd.prog.info? 36).map (·.size) = some f.cs.length := by rw [pn_len]; exact hszN
      have hfa9 : f.At W9 := by rw [← hW9]; exact hfa.cells hfo (by omega) 0 f.cs
      have hfw : f.Own w.heap.size W9 := hfo.lower (by omega) (by rw [← hW9]; exact cells_size _ _ _ _)
      have hft : f.n = toldN (namesP l) (parentOf p) 0 := by rw [hpp.out]; exact hfn.out
      clear hbad
      as_aux_lemma =>
        go_wp2_with (first | (refine wpList_load_row rfl _ rfl bn rfl f.cs hrn hund rfl hszf ?_) | (refine wpList_store_part rfl _ _ rfl (w.heap.size + 1) 0 rfl f.cs rfl hth9 hszf (pn_one f) hW9 ?_) | fail)
        refine bodyPost_ret (v := .tuple #[.agg f.cs.toArray, .int .i64 0]) (results_row2 rfl _ _ (w.heap.size + 1) rfl (.int .i64 0) rfl f.cs hk9.range hund rfl hszf) rfl ?_
        exact ⟨f, rfl, hft, hfa9, hb9, hfw⟩
theorem monOk : MonOk where
  see := fun a cap l u t p hF hG hp w h hV => (msee_any a cap l u t p hF hG hp w h hV).mono fun e w' ⟨f, h1, h2, h3, h4, _⟩ => ⟨f, h1, h2, h3, h4⟩
  may := fun a cap l u t p m hF hG hp w h hV => (mmay_any a cap l u t p m hF hG hp w h hV).mono fun e w' ⟨f, h1, h2, h3, h4, _⟩ => ⟨f, h1, h2, h3, h4⟩
theorem monOk3 : MonOk3 where
  toMonOk := monOk
  chg := fun a cap l u t p hF hG hp w h hV => (mchg_any a cap l u t p hF hG hp w h hV).mono fun e w' ⟨f, h1, h2, h3, h4, _⟩ => ⟨f, h1, h2, h3, h4⟩
end Go.Proofs.YtapgjdmnlkedgaaDoor

/-! NODES PUT, AND TOLD BY DIRECTORIES: the document's own Put and Under (donjonref11). -/
namespace Go.Proofs.YtapgjdmnlkedgaaDoor
open Go.RowKit
set_option maxRecDepth 8000
set_option linter.unusedSimpArgs false
set_option linter.unusedVariables false

section
variable {α : Type} {e t : TypeId} {sz : Nat} {f : α → List Value}
/-- append of elements that lie anywhere, or of none. -/
theorem OwnR.append_any {w : World} {base : Nat} {v : Value} {l : List α} (hE : ElemOk e t sz f) (h : OwnR e sz f w base v l) (hb : base ≤ w.heap.size) (a : Option Addr) (m c : Nat) (l2 : List α) (hm : l2.length = m) (h2 : RowAt sz f w a l2) (hn : a = none → c = 0 ∧ m = 0) (hl : l.length < 900000) (hl2 : m < 900000) :
    ∃ v' w', (Builtin.append_ #[t, t] t #[v, .slice a m c]).run Tryd.prog w = .ok v' w' ∧ OwnR e sz f w' base v' (l ++ l2) ∧ Grew w v w' v' := by
  cases a with
  | some y => exact h.append hE hb y m c l2 hm h2 hl hl2
  | none =>
    obtain ⟨rfl, hm0⟩ := hn rfl
    subst hm0
    obtain rfl : l2 = [] := List.eq_nil_of_length_eq_zero hm
    obtain ⟨i, z, b, hi, _⟩ := hE.info
    have ho : w.ownsRow base e sz v l.length (l.flatMap f) := h
    refine ⟨v, w, run_append_owned_none (P := Tryd.prog) (w := w) base t t e i sz hE.und hi v l.length _ ho, by rw [List.append_nil]; exact h, Grew.refl _ _⟩
/-- The first k of a row, and the others. -/
theorem rows_take (hE : ElemOk e t sz f) (ht : Tryd.prog.elem t = e) (a : Option Addr) (n cap k : Nat) (hk : k ≤ n) (hnc : n ≤ cap) :
    ∃ A : Option Addr, (∀ W, (Instr.slice t (.slice a n cap) none (some (.int .i64 (k : Int))) none).run Tryd.prog W = .ok (.slice A k cap) W) ∧ (A = none → a = none) ∧ ∀ W l, RowAt sz f W a l → RowAt sz f W A (l.take k) := by
  obtain ⟨i, z, b, hi, hz, hs, _⟩ := hE.info
  refine ⟨if cap = 0 then a else a.map (·.add 0), fun W => ?_, fun h => ?_, fun W l h j x hx => ?_⟩
  · rw [run_slice_h (P := Tryd.prog) W t a n cap (by rw [ht]; exact hE.und) .i64 (k : Int) (by omega) (by omega), ht]
    simp [sizeOf, typeInfo, hi, hs, sliced]
  · split at h
    · exact h
    · simpa using h
  · have hj : l[j]? = some x := by
      rw [List.getElem?_take] at hx
      split at hx
      · exact hx
      · cases hx
    obtain ⟨y, rfl, hc⟩ := h j x hj
    refine ⟨y, ?_, hc⟩
    split
    · rfl
    · rfl
theorem rows_drop (hE : ElemOk e t sz f) (ht : Tryd.prog.elem t = e) (a : Option Addr) (n cap k : Nat) (hk : k ≤ n) (hnc : n ≤ cap) :
    ∃ A : Option Addr, (∀ W, (Instr.slice t (.slice a n cap) (some (.int .i64 (k : Int))) none none).run Tryd.prog W = .ok (.slice A (n - k) (cap - k)) W) ∧ (A = none → a = none) ∧ ∀ W l, l.length = n → RowAt sz f W a l → RowAt sz f W A (l.drop k) := by
  obtain ⟨i, z, b, hi, hz, hs, _⟩ := hE.info
  refine ⟨if cap = k then a else a.map (·.add (k * sz)), fun W => ?_, fun h => ?_, fun W l hl h j x hx => ?_⟩
  · rw [run_slice_l (P := Tryd.prog) W t a n cap (by rw [ht]; exact hE.und) .i64 (k : Int) (by omega) (by omega), ht]
    simp [sizeOf, typeInfo, hi, hs, sliced]
  · split at h
    · exact h
    · simpa using h
  · rw [List.getElem?_drop] at hx
    have hkj := (List.getElem?_eq_some_iff.1 hx).1
    obtain ⟨y, rfl, hc⟩ := h (k + j) x hx
    rw [if_neg (by omega)]
    refine ⟨_, rfl, fun q hq => ?_⟩
    rw [Addr.add_add, ← Nat.add_assoc, ← Nat.add_mul]
    exact hc q hq
end
theorem tw_take {α : Type} {f : α → Bool} : ∀ (l : List α) (k : Nat), (∀ x ∈ l.take k, f x = true) → (∀ x, l[k]? = some x → f x = false) → l.takeWhile f = l.take k ∧ l.dropWhile f = l.drop k
  | [], k, _, _ => by simp
  | a :: r, 0, _, h => by
    have := h a rfl
    simp [List.takeWhile_cons, List.dropWhile_cons, this]
  | a :: r, k + 1, h1, h2 => by
    have ha := h1 a (by simp)
    obtain ⟨h3, h4⟩ := tw_take r k (fun x hx => h1 x (by simp [hx])) (fun x hx => h2 x (by simpa using hx))
    rw [List.takeWhile_cons, List.dropWhile_cons, ha]
    simp only [if_true, List.take_succ_cons, List.drop_succ_cons]
    rw [h3, h4]
    exact ⟨rfl, rfl⟩
/-- What Put does behind its loop. -/
theorem put_tail (W : World) (a1 : Option Addr) (n c1 k : Nat) (m : List PN) (x : PN) (hn : m.length = n) (hk : k ≤ n) (hle : n ≤ c1) (hno : a1 = none → c1 = 0) (hn1 : n ≤ 100000) (hr : RowAt 16 PN.cs W a1 m) :
    ∃ A1 A2 v2 W2 v3 W3 v4 W4, (∀ X, (Instr.slice 28 (.slice a1 n c1) none (some (.int .i64 (k : Int))) none).run Tryd.prog X = .ok (.slice A1 k c1) X) ∧ (∀ X, (Instr.slice 28 (.slice a1 n c1) (some (.int .i64 (k : Int))) none none).run Tryd.prog X = .ok (.slice A2 (n - k) (c1 - k)) X) ∧
      (Builtin.append_ #[28, 28] 28 #[.slice none 0 0, .slice A1 k c1]).run Tryd.prog W = .ok v2 W2 ∧ (Builtin.append_ #[28, 28] 28 #[v2, .slice (some ⟨W2.heap.size, 0, none⟩) 1 1]).run Tryd.prog (W2.alloc (.cells x.cs.toArray 36)) = .ok v3 W3 ∧
      (Builtin.append_ #[28, 28] 28 #[v3, .slice A2 (n - k) (c1 - k)]).run Tryd.prog W3 = .ok v4 W4 ∧ Below W.heap.size W W2 ∧ OwnN W4 W.heap.size v4 (m.take k ++ x :: m.drop k) ∧ Below W.heap.size W W4 := by
  obtain ⟨A1, hs1, hn1', hr1'⟩ := rows_take pn_ok (by kernel_rfl) a1 n c1 k hk hle
  obtain ⟨A2, hs2, hn2', hr2'⟩ := rows_drop pn_ok (by kernel_rfl) a1 n c1 k hk hle
  have hlt3 : (m.take k).length = k := by rw [List.length_take, hn]; omega
  have hlt4 : (m.drop k).length = n - k := by rw [List.length_drop, hn]
  have ho0 : OwnN W W.heap.size (.slice none 0 0) [] := OwnR.nil _ _ _ _ _
  obtain ⟨v2, W2, hap2, ho2, hg2⟩ := OwnR.append_any pn_ok ho0 (Nat.le_refl _) A1 k c1 (m.take k) hlt3 (hr1' _ _ hr) (fun q => by have := hno (hn1' q); omega) (by simp) (by omega)
  rw [List.nil_append] at ho2
  have hb2 := ho0.grew_below (Nat.le_refl _) hg2
  obtain ⟨v3, W3, hap3, ho3, hg3⟩ := OwnR.push pn_ok ho2 hb2.size x x.cs.toArray rfl 36 (by rw [hlt3]; omega)
  have hb3 := ho2.grew_below hb2.size hg3
  have hB3 := hb2.trans hb3
  obtain ⟨v4, W4, hap4, ho4, hg4⟩ := OwnR.append_any pn_ok ho3 hB3.size A2 (n - k) (c1 - k) (m.drop k) hlt4 (hr2' _ _ hn (hr.below pn_len hB3)) (fun q => by have := hno (hn2' q); omega) (by simp [hlt3]; omega) (by omega)
  have hb4 := ho3.grew_below hB3.size hg4
  refine ⟨A1, A2, v2, W2, v3, W3, v4, W4, hs1, hs2, hap2, hap3, hap4, hb2, ?_, hB3.trans hb4⟩
  simpa using ho4
set_option maxRecDepth 8000 in
set_option maxHeartbeats 4000000 in
theorem rputT_any (a : Option Addr) (cap : Nat) (l : List PN) (x : PN) (hl : l.length ≤ 100000) (w : World) (h : RowN w a l) :
    Calls Tryd.prog 30 #[.slice a l.length cap, .agg x.cs.toArray] w fun e w' => ∃ v, e = .returned v ∧ OwnN w' w.heap.size v (putP l x) ∧ Below w.heap.size w w' := by
  have hund := Tryd.underlying36
  have hsz : (Tryd.prog.info? 36).map (·.size) = some 16 := by kernel_rfl
  have hb0 := blk_alloc w x.cs.toArray 36
  have hB0 := alloc_below w (.cells x.cs.toArray 36)
  have hs0 := World.size_alloc w (.cells x.cs.toArray 36)
  have kd := fun W (q : RowN W a l) => rdropT_any a cap l x.n.path hl W q
  unfold putP
  have hdl : (dropP l x.n.path).length ≤ 100000 := Nat.le_trans (List.length_filter_le _ _) hl
  generalize dropP l x.n.path = m at *
  have hcs : x.cs = [.string x.n.path, .bool x.n.dir, .int .i64 x.n.label.s, .int .i64 x.n.label.c, .int .i64 x.n.label.i, .int .i64 x.n.label.k, .slice x.aa x.n.acl.length x.ca, .int .i64 x.n.r1, .int .i64 x.n.r2, .int .i64 x.n.r3, .int .i64 x.n.gates, .slice x.wa x.n.words.length x.cw, .int .i64 x.n.by_.s, .int .i64 x.n.by_.c, .int .i64 x.n.by_.i, .int .i64 x.n.by_.k] := rfl
  rw [hcs] at hb0 hB0 hs0 ⊢
  go_enter Tryd.func30, Tryd.ntmps30
  go_wp2_with fail
  have hrow := h.below hB0
  generalize w.alloc (.cells #[.string x.n.path, .bool x.n.dir, .int .i64 x.n.label.s, .int .i64 x.n.label.c, .int .i64 x.n.label.i, .int .i64 x.n.label.k, .slice x.aa x.n.acl.length x.ca, .int .i64 x.n.r1, .int .i64 x.n.r2, .int .i64 x.n.r3, .int .i64 x.n.gates, .slice x.wa x.n.words.length x.cw, .int .i64 x.n.by_.s, .int .i64 x.n.by_.c, .int .i64 x.n.by_.i, .int .i64 x.n.by_.k] 36) = W at *
  refine (kd W hrow).mono ?_
  rintro e W1 ⟨v1, rfl, ho1, hB1⟩
  obtain ⟨a1, c1, rfl, hle1, hno1, hr1⟩ := OwnR.slice pn_len ho1
  have hb1 := hb0.same (hB1.block _ (by omega))
  rw [← hcs] at hb1
  have hlt1 : w.heap.size < W1.heap.size := by have := hB1.size; omega
  have hB2 := Below.then hB0 hB1
  clear hb0 kd hrow h hB0 hB1
  obtain ⟨n, hn⟩ : ∃ n, m.length = n := ⟨_, rfl⟩
  rw [hn] at hle1 ⊢
  replace hn : Aside (m.length = n) := hn
  have hn1 : n ≤ 100000 := by rw [← hn.out]; exact hdl
  go_wp2_with fail
  go_loopw [5] (fun t5 wr => ∃ k : Nat, k ≤ n ∧ t5 = .int .i64 (k : Int) ∧ (∀ y ∈ m.take k, lt y.n.path x.n.path = true) ∧ Below W1.heap.size W1 wr) (fun t5 _ => n - (Go.RowKit.intOf t5).toNat)
  case atStart => exact ⟨0, by omega, rfl, fun y hy => by simp at hy, Below.refl _ _⟩
  case round =>
    obtain ⟨k, hk, rfl, hall, hB⟩ := hrel
    have hbk := hb1.same (hB.block _ hlt1)
    have q0 : wr.cell? ⟨w.heap.size, 0, none⟩ = some (.string x.n.path) := (hbk 0 _ rfl).1
    have hrk := hr1.below pn_len hB
    by_cases hlt : k < n
    · obtain ⟨z, hz⟩ : ∃ z, m[k]? = some z := ⟨_, List.getElem?_eq_getElem (by rw [hn.out]; exact hlt)⟩
      obtain ⟨y, rfl, -⟩ := hrk k z hz
      have hc := (hrk.at pn_len hz) 0 _ rfl
      have hc' : wr.cell? (y.add (k * 16)) = some (.string z.n.path) := hc
      have hi1 : (k : Int) < (n : Int) := by omega
      have hS0 : (fun W : World => W.cell? (y.add (k * 16)) = some (.string z.n.path) ∧ W.cell? ⟨w.heap.size, 0, none⟩ = some (.string x.n.path)) wr.drew := ⟨hc', q0⟩
      have hBd := hB.drew
      cases hlt2 : lt z.n.path x.n.path
      · have f0 : Op.bytesLess z.n.path.toList x.n.path.toList = false := by exact hlt2
        have hbkd : Blk wr.drew w.heap.size x.cs := hbk
        have hrkd : RowAt 16 PN.cs wr.drew (some y) m := hrk
        go_wp2_with fail
        refine wp_region_held_drew (S := (fun W : World => W.cell? (y.add (k * 16)) = some (.string z.n.path) ∧ W.cell? ⟨w.heap.size, 0, none⟩ = some (.string x.n.path))) (by kernel_rfl) (by exact hS0) ?_
        intro hHeld
        (first | (refine wpAnyH_take (i := 0) (v := ?_) (by simp only [gA, gB, gC]; rfl) (by kernel_rfl) (by kernel_rfl) (by kernel_rfl) (by exact fun _ _ _ h => h) (Or.inl ⟨by rfl, ?_⟩) (by assumption) ?_; rotate_left; (focus (intro w hSw; (try dsimp only at hSw); go_simp; try with_reducible rfl))) | (refine wpAnyH_take (i := 0) (v := undef) (by simp only [gA, gB, gC]; rfl) (by kernel_rfl) (by kernel_rfl) (by kernel_rfl) (by exact fun _ _ _ h => h) (Or.inr ⟨by rfl, rfl⟩) (by assumption) ?_) | fail); simp only [Act.put, sA, sB, sC, f0]
        (first | (refine wpAnyH_take (i := 1) (v := ?_) (by simp only [gA, gB, gC]; rfl) (by kernel_rfl) (by kernel_rfl) (by kernel_rfl) (by exact fun _ _ _ h => h) (Or.inl ⟨by rfl, ?_⟩) (by assumption) ?_; rotate_left; (focus (intro w hSw; (try dsimp only at hSw); go_simp; try with_reducible rfl))) | (refine wpAnyH_take (i := 1) (v := undef) (by simp only [gA, gB, gC]; rfl) (by kernel_rfl) (by kernel_rfl) (by kernel_rfl) (by exact fun _ _ _ h => h) (Or.inr ⟨by rfl, rfl⟩) (by assumption) ?_) | fail); simp only [Act.put, sA, sB, sC, f0]
        (first | (refine wpAnyH_take (i := 2) (v := ?_) (by simp only [gA, gB, gC]; rfl) (by kernel_rfl) (by kernel_rfl) (by kernel_rfl) (by exact fun _ _ _ h => h) (Or.inl ⟨by rfl, ?_⟩) (by assumption) ?_; rotate_left; (focus (intro w hSw; (try dsimp only at hSw); go_simp; try with_reducible rfl))) | (refine wpAnyH_take (i := 2) (v := undef) (by simp only [gA, gB, gC]; rfl) (by kernel_rfl) (by kernel_rfl) (by kernel_rfl) (by exact fun _ _ _ h => h) (Or.inr ⟨by rfl, rfl⟩) (by assumption) ?_) | fail); simp only [Act.put, sA, sB, sC, f0]
        (first | (refine wpAnyH_take (i := 3) (v := ?_) (by simp only [gA, gB, gC]; rfl) (by kernel_rfl) (by kernel_rfl) (by kernel_rfl) (by exact fun _ _ _ h => h) (Or.inl ⟨by rfl, ?_⟩) (by assumption) ?_; rotate_left; (focus (intro w hSw; (try dsimp only at hSw); go_simp; try with_reducible rfl))) | (refine wpAnyH_take (i := 3) (v := undef) (by simp only [gA, gB, gC]; rfl) (by kernel_rfl) (by kernel_rfl) (by kernel_rfl) (by exact fun _ _ _ h => h) (Or.inr ⟨by rfl, rfl⟩) (by assumption) ?_) | fail); simp only [Act.put, sA, sB, sC, f0]
        (first | (refine wpAnyH_take (i := 4) (v := ?_) (by simp only [gA, gB, gC]; rfl) (by kernel_rfl) (by kernel_rfl) (by kernel_rfl) (by exact fun _ _ _ h => h) (Or.inl ⟨by rfl, ?_⟩) (by assumption) ?_; rotate_left; (focus (intro w hSw; (try dsimp only at hSw); go_simp; try with_reducible rfl))) | (refine wpAnyH_take (i := 4) (v := undef) (by simp only [gA, gB, gC]; rfl) (by kernel_rfl) (by kernel_rfl) (by kernel_rfl) (by exact fun _ _ _ h => h) (Or.inr ⟨by rfl, rfl⟩) (by assumption) ?_) | fail); simp only [Act.put, sA, sB, sC, f0]
        (first | (refine wpAnyH_take (i := 5) (v := ?_) (by simp only [gA, gB, gC]; rfl) (by kernel_rfl) (by kernel_rfl) (by kernel_rfl) (by exact fun _ _ _ h => h) (Or.inl ⟨by rfl, ?_⟩) (by assumption) ?_; rotate_left; (focus (intro w hSw; (try dsimp only at hSw); go_simp; try with_reducible rfl))) | (refine wpAnyH_take (i := 5) (v := undef) (by simp only [gA, gB, gC]; rfl) (by kernel_rfl) (by kernel_rfl) (by kernel_rfl) (by exact fun _ _ _ h => h) (Or.inr ⟨by rfl, rfl⟩) (by assumption) ?_) | fail); simp only [Act.put, sA, sB, sC, f0]
        (first | (refine wpAnyH_take (i := 6) (v := ?_) (by simp only [gA, gB, gC]; rfl) (by kernel_rfl) (by kernel_rfl) (by kernel_rfl) (by exact fun _ _ _ h => h) (Or.inl ⟨by rfl, ?_⟩) (by assumption) ?_; rotate_left; (focus (intro w hSw; (try dsimp only at hSw); go_simp; try with_reducible rfl))) | (refine wpAnyH_take (i := 6) (v := undef) (by simp only [gA, gB, gC]; rfl) (by kernel_rfl) (by kernel_rfl) (by kernel_rfl) (by exact fun _ _ _ h => h) (Or.inr ⟨by rfl, rfl⟩) (by assumption) ?_) | fail); simp only [Act.put, sA, sB, sC, f0]
        (first | (refine wpAnyH_take (i := 7) (v := ?_) (by simp only [gA, gB, gC]; rfl) (by kernel_rfl) (by kernel_rfl) (by kernel_rfl) (by exact fun _ _ _ h => h) (Or.inl ⟨by rfl, ?_⟩) (by assumption) ?_; rotate_left; (focus (intro w hSw; (try dsimp only at hSw); go_simp; try with_reducible rfl))) | (refine wpAnyH_take (i := 7) (v := undef) (by simp only [gA, gB, gC]; rfl) (by kernel_rfl) (by kernel_rfl) (by kernel_rfl) (by exact fun _ _ _ h => h) (Or.inr ⟨by rfl, rfl⟩) (by assumption) ?_) | fail); simp only [Act.put, sA, sB, sC, f0]
        (first | (refine wpAnyH_take (i := 8) (v := ?_) (by simp only [gA, gB, gC]; rfl) (by kernel_rfl) (by kernel_rfl) (by kernel_rfl) (by exact fun _ _ _ h => h) (Or.inl ⟨by rfl, ?_⟩) (by assumption) ?_; rotate_left; (focus (intro w hSw; (try dsimp only at hSw); go_simp; try with_reducible rfl))) | (refine wpAnyH_take (i := 8) (v := undef) (by simp only [gA, gB, gC]; rfl) (by kernel_rfl) (by kernel_rfl) (by kernel_rfl) (by exact fun _ _ _ h => h) (Or.inr ⟨by rfl, rfl⟩) (by assumption) ?_) | fail); simp only [Act.put, sA, sB, sC, f0]
        (first | (refine wpAnyH_take (i := 9) (v := ?_) (by simp only [gA, gB, gC]; rfl) (by kernel_rfl) (by kernel_rfl) (by kernel_rfl) (by exact fun _ _ _ h => h) (Or.inl ⟨by rfl, ?_⟩) (by assumption) ?_; rotate_left; (focus (intro w hSw; (try dsimp only at hSw); go_simp; try with_reducible rfl))) | (refine wpAnyH_take (i := 9) (v := undef) (by simp only [gA, gB, gC]; rfl) (by kernel_rfl) (by kernel_rfl) (by kernel_rfl) (by exact fun _ _ _ h => h) (Or.inr ⟨by rfl, rfl⟩) (by assumption) ?_) | fail); simp only [Act.put, sA, sB, sC, f0]
        (first | (refine wpAnyH_take (i := 10) (v := ?_) (by simp only [gA, gB, gC]; rfl) (by kernel_rfl) (by kernel_rfl) (by kernel_rfl) (by exact fun _ _ _ h => h) (Or.inl ⟨by rfl, ?_⟩) (by assumption) ?_; rotate_left; (focus (intro w hSw; (try dsimp only at hSw); go_simp; try with_reducible rfl))) | (refine wpAnyH_take (i := 10) (v := undef) (by simp only [gA, gB, gC]; rfl) (by kernel_rfl) (by kernel_rfl) (by kernel_rfl) (by exact fun _ _ _ h => h) (Or.inr ⟨by rfl, rfl⟩) (by assumption) ?_) | fail); simp only [Act.put, sA, sB, sC, f0]
        (first | (refine wpAnyH_take (i := 11) (v := ?_) (by simp only [gA, gB, gC]; rfl) (by kernel_rfl) (by kernel_rfl) (by kernel_rfl) (by exact fun _ _ _ h => h) (Or.inl ⟨by rfl, ?_⟩) (by assumption) ?_; rotate_left; (focus (intro w hSw; (try dsimp only at hSw); go_simp; try with_reducible rfl))) | (refine wpAnyH_take (i := 11) (v := undef) (by simp only [gA, gB, gC]; rfl) (by kernel_rfl) (by kernel_rfl) (by kernel_rfl) (by exact fun _ _ _ h => h) (Or.inr ⟨by rfl, rfl⟩) (by assumption) ?_) | fail); simp only [Act.put, sA, sB, sC, f0]
        (first | (refine wpAnyH_take (i := 12) (v := ?_) (by simp only [gA, gB, gC]; rfl) (by kernel_rfl) (by kernel_rfl) (by kernel_rfl) (by exact fun _ _ _ h => h) (Or.inl ⟨by rfl, ?_⟩) (by assumption) ?_; rotate_left; (focus (intro w hSw; (try dsimp only at hSw); go_simp; try with_reducible rfl))) | (refine wpAnyH_take (i := 12) (v := undef) (by simp only [gA, gB, gC]; rfl) (by kernel_rfl) (by kernel_rfl) (by kernel_rfl) (by exact fun _ _ _ h => h) (Or.inr ⟨by rfl, rfl⟩) (by assumption) ?_) | fail); simp only [Act.put, sA, sB, sC, f0]
        (first | (refine wpAnyH_take (i := 13) (v := ?_) (by simp only [gA, gB, gC]; rfl) (by kernel_rfl) (by kernel_rfl) (by kernel_rfl) (by exact fun _ _ _ h => h) (Or.inl ⟨by rfl, ?_⟩) (by assumption) ?_; rotate_left; (focus (intro w hSw; (try dsimp only at hSw); go_simp; try with_reducible rfl))) | (refine wpAnyH_take (i := 13) (v := undef) (by simp only [gA, gB, gC]; rfl) (by kernel_rfl) (by kernel_rfl) (by kernel_rfl) (by exact fun _ _ _ h => h) (Or.inr ⟨by rfl, rfl⟩) (by assumption) ?_) | fail); simp only [Act.put, sA, sB, sC, f0]
        refine wpAnyH_done (by kernel_rfl) ?_ _
        clear hc hc' q0 hrk hbk
        obtain ⟨A1, A2, v2, W2, v3, W3, v4, W4, hs1, hs2, hap2, hap3, hap4, hb2, ho4, hb4⟩ := put_tail wr.drew (some y) n c1 k m x hn.out hk hle1 hno1 hn1 hrkd
        have hbz : Blk W2 w.heap.size x.cs := hbkd.same (hb2.block _ (Nat.lt_of_lt_of_le hlt1 hBd.size))
        have hrg := hbz.range
        obtain ⟨ht1, ht2⟩ := tw_take m k hall (fun q hq => by rw [hz] at hq; obtain rfl := Option.some.inj hq; exact hlt2)
        rw [← ht1, ← ht2] at ho4
        replace ho4 := ho4.lower (Nat.le_trans (Nat.le_of_lt hlt1) hBd.size)
        have hBz := (hB2.trans (hBd.mono (Nat.le_of_lt hlt1))).trans (hb4.mono (Nat.le_trans (Nat.le_of_lt hlt1) hBd.size))
        obtain ⟨cs, hcx⟩ : ∃ cs, x.cs = cs := ⟨_, rfl⟩
        have hlen : cs.length = 16 := by rw [← hcx]; rfl
        rw [hcx] at hrg hap3
        rw [← hlen] at hsz
        clear hcx hcs hbz hb1 ht1 ht2 hb4 hb2
        go_wp2_with (first | (refine wpList_load_row rfl _ rfl w.heap.size rfl cs hrg hund rfl hsz ?_) | (refine wpList_build1 pn_ok (by decide) rfl _ rfl cs rfl hlen ?_) | (refine wpList_append rfl _ _ rfl rfl rfl rfl hap2 ?_) | (refine wpList_append rfl _ _ rfl rfl rfl rfl hap3 ?_) | (refine wpList_append rfl _ _ rfl rfl rfl rfl hap4 ?_) | fail)
        go_ret
        exact ⟨_, rfl, ho4, hBz⟩
      · have f0 : Op.bytesLess z.n.path.toList x.n.path.toList = true := by exact hlt2
        clear hc hc' q0 hrk hbk
        go_wp2_with fail
        refine wp_region_held_drew (S := (fun W : World => W.cell? (y.add (k * 16)) = some (.string z.n.path) ∧ W.cell? ⟨w.heap.size, 0, none⟩ = some (.string x.n.path))) (by kernel_rfl) (by exact hS0) ?_
        intro hHeld
        (first | (refine wpAnyH_take (i := 0) (v := ?_) (by simp only [gA, gB, gC]; rfl) (by kernel_rfl) (by kernel_rfl) (by kernel_rfl) (by exact fun _ _ _ h => h) (Or.inl ⟨by rfl, ?_⟩) (by assumption) ?_; rotate_left; (focus (intro w hSw; (try dsimp only at hSw); go_simp; try with_reducible rfl))) | (refine wpAnyH_take (i := 0) (v := undef) (by simp only [gA, gB, gC]; rfl) (by kernel_rfl) (by kernel_rfl) (by kernel_rfl) (by exact fun _ _ _ h => h) (Or.inr ⟨by rfl, rfl⟩) (by assumption) ?_) | fail); simp only [Act.put, sA, sB, sC, f0]
        (first | (refine wpAnyH_take (i := 1) (v := ?_) (by simp only [gA, gB, gC]; rfl) (by kernel_rfl) (by kernel_rfl) (by kernel_rfl) (by exact fun _ _ _ h => h) (Or.inl ⟨by rfl, ?_⟩) (by assumption) ?_; rotate_left; (focus (intro w hSw; (try dsimp only at hSw); go_simp; try with_reducible rfl))) | (refine wpAnyH_take (i := 1) (v := undef) (by simp only [gA, gB, gC]; rfl) (by kernel_rfl) (by kernel_rfl) (by kernel_rfl) (by exact fun _ _ _ h => h) (Or.inr ⟨by rfl, rfl⟩) (by assumption) ?_) | fail); simp only [Act.put, sA, sB, sC, f0]
        (first | (refine wpAnyH_take (i := 2) (v := ?_) (by simp only [gA, gB, gC]; rfl) (by kernel_rfl) (by kernel_rfl) (by kernel_rfl) (by exact fun _ _ _ h => h) (Or.inl ⟨by rfl, ?_⟩) (by assumption) ?_; rotate_left; (focus (intro w hSw; (try dsimp only at hSw); go_simp; try with_reducible rfl))) | (refine wpAnyH_take (i := 2) (v := undef) (by simp only [gA, gB, gC]; rfl) (by kernel_rfl) (by kernel_rfl) (by kernel_rfl) (by exact fun _ _ _ h => h) (Or.inr ⟨by rfl, rfl⟩) (by assumption) ?_) | fail); simp only [Act.put, sA, sB, sC, f0]
        (first | (refine wpAnyH_take (i := 3) (v := ?_) (by simp only [gA, gB, gC]; rfl) (by kernel_rfl) (by kernel_rfl) (by kernel_rfl) (by exact fun _ _ _ h => h) (Or.inl ⟨by rfl, ?_⟩) (by assumption) ?_; rotate_left; (focus (intro w hSw; (try dsimp only at hSw); go_simp; try with_reducible rfl))) | (refine wpAnyH_take (i := 3) (v := undef) (by simp only [gA, gB, gC]; rfl) (by kernel_rfl) (by kernel_rfl) (by kernel_rfl) (by exact fun _ _ _ h => h) (Or.inr ⟨by rfl, rfl⟩) (by assumption) ?_) | fail); simp only [Act.put, sA, sB, sC, f0]
        (first | (refine wpAnyH_take (i := 4) (v := ?_) (by simp only [gA, gB, gC]; rfl) (by kernel_rfl) (by kernel_rfl) (by kernel_rfl) (by exact fun _ _ _ h => h) (Or.inl ⟨by rfl, ?_⟩) (by assumption) ?_; rotate_left; (focus (intro w hSw; (try dsimp only at hSw); go_simp; try with_reducible rfl))) | (refine wpAnyH_take (i := 4) (v := undef) (by simp only [gA, gB, gC]; rfl) (by kernel_rfl) (by kernel_rfl) (by kernel_rfl) (by exact fun _ _ _ h => h) (Or.inr ⟨by rfl, rfl⟩) (by assumption) ?_) | fail); simp only [Act.put, sA, sB, sC, f0]
        (first | (refine wpAnyH_take (i := 5) (v := ?_) (by simp only [gA, gB, gC]; rfl) (by kernel_rfl) (by kernel_rfl) (by kernel_rfl) (by exact fun _ _ _ h => h) (Or.inl ⟨by rfl, ?_⟩) (by assumption) ?_; rotate_left; (focus (intro w hSw; (try dsimp only at hSw); go_simp; try with_reducible rfl))) | (refine wpAnyH_take (i := 5) (v := undef) (by simp only [gA, gB, gC]; rfl) (by kernel_rfl) (by kernel_rfl) (by kernel_rfl) (by exact fun _ _ _ h => h) (Or.inr ⟨by rfl, rfl⟩) (by assumption) ?_) | fail); simp only [Act.put, sA, sB, sC, f0]
        (first | (refine wpAnyH_take (i := 6) (v := ?_) (by simp only [gA, gB, gC]; rfl) (by kernel_rfl) (by kernel_rfl) (by kernel_rfl) (by exact fun _ _ _ h => h) (Or.inl ⟨by rfl, ?_⟩) (by assumption) ?_; rotate_left; (focus (intro w hSw; (try dsimp only at hSw); go_simp; try with_reducible rfl))) | (refine wpAnyH_take (i := 6) (v := undef) (by simp only [gA, gB, gC]; rfl) (by kernel_rfl) (by kernel_rfl) (by kernel_rfl) (by exact fun _ _ _ h => h) (Or.inr ⟨by rfl, rfl⟩) (by assumption) ?_) | fail); simp only [Act.put, sA, sB, sC, f0]
        (first | (refine wpAnyH_take (i := 7) (v := ?_) (by simp only [gA, gB, gC]; rfl) (by kernel_rfl) (by kernel_rfl) (by kernel_rfl) (by exact fun _ _ _ h => h) (Or.inl ⟨by rfl, ?_⟩) (by assumption) ?_; rotate_left; (focus (intro w hSw; (try dsimp only at hSw); go_simp; try with_reducible rfl))) | (refine wpAnyH_take (i := 7) (v := undef) (by simp only [gA, gB, gC]; rfl) (by kernel_rfl) (by kernel_rfl) (by kernel_rfl) (by exact fun _ _ _ h => h) (Or.inr ⟨by rfl, rfl⟩) (by assumption) ?_) | fail); simp only [Act.put, sA, sB, sC, f0]
        (first | (refine wpAnyH_take (i := 8) (v := ?_) (by simp only [gA, gB, gC]; rfl) (by kernel_rfl) (by kernel_rfl) (by kernel_rfl) (by exact fun _ _ _ h => h) (Or.inl ⟨by rfl, ?_⟩) (by assumption) ?_; rotate_left; (focus (intro w hSw; (try dsimp only at hSw); go_simp; try with_reducible rfl))) | (refine wpAnyH_take (i := 8) (v := undef) (by simp only [gA, gB, gC]; rfl) (by kernel_rfl) (by kernel_rfl) (by kernel_rfl) (by exact fun _ _ _ h => h) (Or.inr ⟨by rfl, rfl⟩) (by assumption) ?_) | fail); simp only [Act.put, sA, sB, sC, f0]
        (first | (refine wpAnyH_take (i := 9) (v := ?_) (by simp only [gA, gB, gC]; rfl) (by kernel_rfl) (by kernel_rfl) (by kernel_rfl) (by exact fun _ _ _ h => h) (Or.inl ⟨by rfl, ?_⟩) (by assumption) ?_; rotate_left; (focus (intro w hSw; (try dsimp only at hSw); go_simp; try with_reducible rfl))) | (refine wpAnyH_take (i := 9) (v := undef) (by simp only [gA, gB, gC]; rfl) (by kernel_rfl) (by kernel_rfl) (by kernel_rfl) (by exact fun _ _ _ h => h) (Or.inr ⟨by rfl, rfl⟩) (by assumption) ?_) | fail); simp only [Act.put, sA, sB, sC, f0]
        (first | (refine wpAnyH_take (i := 10) (v := ?_) (by simp only [gA, gB, gC]; rfl) (by kernel_rfl) (by kernel_rfl) (by kernel_rfl) (by exact fun _ _ _ h => h) (Or.inl ⟨by rfl, ?_⟩) (by assumption) ?_; rotate_left; (focus (intro w hSw; (try dsimp only at hSw); go_simp; try with_reducible rfl))) | (refine wpAnyH_take (i := 10) (v := undef) (by simp only [gA, gB, gC]; rfl) (by kernel_rfl) (by kernel_rfl) (by kernel_rfl) (by exact fun _ _ _ h => h) (Or.inr ⟨by rfl, rfl⟩) (by assumption) ?_) | fail); simp only [Act.put, sA, sB, sC, f0]
        (first | (refine wpAnyH_take (i := 11) (v := ?_) (by simp only [gA, gB, gC]; rfl) (by kernel_rfl) (by kernel_rfl) (by kernel_rfl) (by exact fun _ _ _ h => h) (Or.inl ⟨by rfl, ?_⟩) (by assumption) ?_; rotate_left; (focus (intro w hSw; (try dsimp only at hSw); go_simp; try with_reducible rfl))) | (refine wpAnyH_take (i := 11) (v := undef) (by simp only [gA, gB, gC]; rfl) (by kernel_rfl) (by kernel_rfl) (by kernel_rfl) (by exact fun _ _ _ h => h) (Or.inr ⟨by rfl, rfl⟩) (by assumption) ?_) | fail); simp only [Act.put, sA, sB, sC, f0]
        (first | (refine wpAnyH_take (i := 12) (v := ?_) (by simp only [gA, gB, gC]; rfl) (by kernel_rfl) (by kernel_rfl) (by kernel_rfl) (by exact fun _ _ _ h => h) (Or.inl ⟨by rfl, ?_⟩) (by assumption) ?_; rotate_left; (focus (intro w hSw; (try dsimp only at hSw); go_simp; try with_reducible rfl))) | (refine wpAnyH_take (i := 12) (v := undef) (by simp only [gA, gB, gC]; rfl) (by kernel_rfl) (by kernel_rfl) (by kernel_rfl) (by exact fun _ _ _ h => h) (Or.inr ⟨by rfl, rfl⟩) (by assumption) ?_) | fail); simp only [Act.put, sA, sB, sC, f0]
        (first | (refine wpAnyH_take (i := 13) (v := ?_) (by simp only [gA, gB, gC]; rfl) (by kernel_rfl) (by kernel_rfl) (by kernel_rfl) (by exact fun _ _ _ h => h) (Or.inl ⟨by rfl, ?_⟩) (by assumption) ?_; rotate_left; (focus (intro w hSw; (try dsimp only at hSw); go_simp; try with_reducible rfl))) | (refine wpAnyH_take (i := 13) (v := undef) (by simp only [gA, gB, gC]; rfl) (by kernel_rfl) (by kernel_rfl) (by kernel_rfl) (by exact fun _ _ _ h => h) (Or.inr ⟨by rfl, rfl⟩) (by assumption) ?_) | fail); simp only [Act.put, sA, sB, sC, f0]
        refine wpAnyH_done (by kernel_rfl) ?_ _
        go_wp2_with fail
        refine ⟨⟨k + 1, by omega, by simp, fun q hq => ?_, hBd⟩, by simp [Go.RowKit.intOf]; omega⟩
        rw [List.take_add_one, hz, List.mem_append] at hq
        rcases hq with hq | hq
        · exact hall q hq
        · simp at hq
          rw [hq]
          exact hlt2
    · have hi1 : ¬ (k : Int) < (n : Int) := by omega
      have hbkd : Blk wr.drew w.heap.size x.cs := hbk
      have hrkd : RowAt 16 PN.cs wr.drew a1 m := hrk
      have hBd := hB.drew
      have hS0 : (fun W : World => W.cell? ⟨w.heap.size, 0, none⟩ = some (.string x.n.path)) wr.drew := q0
      go_wp2_with fail
      refine wp_region_held_drew (S := (fun W : World => W.cell? ⟨w.heap.size, 0, none⟩ = some (.string x.n.path))) (by kernel_rfl) (by exact hS0) ?_
      intro hHeld
      (first | (refine wpAnyH_take (i := 0) (v := ?_) (by simp only [gA, gB, gC]; rfl) (by kernel_rfl) (by kernel_rfl) (by kernel_rfl) (by exact fun _ _ _ h => h) (Or.inl ⟨by rfl, ?_⟩) (by assumption) ?_; rotate_left; (focus (intro w hSw; (try dsimp only at hSw); go_simp; try with_reducible rfl))) | (refine wpAnyH_take (i := 0) (v := undef) (by simp only [gA, gB, gC]; rfl) (by kernel_rfl) (by kernel_rfl) (by kernel_rfl) (by exact fun _ _ _ h => h) (Or.inr ⟨by rfl, rfl⟩) (by assumption) ?_) | fail); simp only [Act.put, sA, sB, sC]
      (first | (refine wpAnyH_take (i := 1) (v := ?_) (by simp only [gA, gB, gC]; rfl) (by kernel_rfl) (by kernel_rfl) (by kernel_rfl) (by exact fun _ _ _ h => h) (Or.inl ⟨by rfl, ?_⟩) (by assumption) ?_; rotate_left; (focus (intro w hSw; (try dsimp only at hSw); go_simp; try with_reducible rfl))) | (refine wpAnyH_take (i := 1) (v := undef) (by simp only [gA, gB, gC]; rfl) (by kernel_rfl) (by kernel_rfl) (by kernel_rfl) (by exact fun _ _ _ h => h) (Or.inr ⟨by rfl, rfl⟩) (by assumption) ?_) | fail); simp only [Act.put, sA, sB, sC]
      (first | (refine wpAnyH_take (i := 2) (v := ?_) (by simp only [gA, gB, gC]; rfl) (by kernel_rfl) (by kernel_rfl) (by kernel_rfl) (by exact fun _ _ _ h => h) (Or.inl ⟨by rfl, ?_⟩) (by assumption) ?_; rotate_left; (focus (intro w hSw; (try dsimp only at hSw); go_simp; try with_reducible rfl))) | (refine wpAnyH_take (i := 2) (v := undef) (by simp only [gA, gB, gC]; rfl) (by kernel_rfl) (by kernel_rfl) (by kernel_rfl) (by exact fun _ _ _ h => h) (Or.inr ⟨by rfl, rfl⟩) (by assumption) ?_) | fail); simp only [Act.put, sA, sB, sC]
      (first | (refine wpAnyH_take (i := 3) (v := ?_) (by simp only [gA, gB, gC]; rfl) (by kernel_rfl) (by kernel_rfl) (by kernel_rfl) (by exact fun _ _ _ h => h) (Or.inl ⟨by rfl, ?_⟩) (by assumption) ?_; rotate_left; (focus (intro w hSw; (try dsimp only at hSw); go_simp; try with_reducible rfl))) | (refine wpAnyH_take (i := 3) (v := undef) (by simp only [gA, gB, gC]; rfl) (by kernel_rfl) (by kernel_rfl) (by kernel_rfl) (by exact fun _ _ _ h => h) (Or.inr ⟨by rfl, rfl⟩) (by assumption) ?_) | fail); simp only [Act.put, sA, sB, sC]
      (first | (refine wpAnyH_take (i := 4) (v := ?_) (by simp only [gA, gB, gC]; rfl) (by kernel_rfl) (by kernel_rfl) (by kernel_rfl) (by exact fun _ _ _ h => h) (Or.inl ⟨by rfl, ?_⟩) (by assumption) ?_; rotate_left; (focus (intro w hSw; (try dsimp only at hSw); go_simp; try with_reducible rfl))) | (refine wpAnyH_take (i := 4) (v := undef) (by simp only [gA, gB, gC]; rfl) (by kernel_rfl) (by kernel_rfl) (by kernel_rfl) (by exact fun _ _ _ h => h) (Or.inr ⟨by rfl, rfl⟩) (by assumption) ?_) | fail); simp only [Act.put, sA, sB, sC]
      (first | (refine wpAnyH_take (i := 5) (v := ?_) (by simp only [gA, gB, gC]; rfl) (by kernel_rfl) (by kernel_rfl) (by kernel_rfl) (by exact fun _ _ _ h => h) (Or.inl ⟨by rfl, ?_⟩) (by assumption) ?_; rotate_left; (focus (intro w hSw; (try dsimp only at hSw); go_simp; try with_reducible rfl))) | (refine wpAnyH_take (i := 5) (v := undef) (by simp only [gA, gB, gC]; rfl) (by kernel_rfl) (by kernel_rfl) (by kernel_rfl) (by exact fun _ _ _ h => h) (Or.inr ⟨by rfl, rfl⟩) (by assumption) ?_) | fail); simp only [Act.put, sA, sB, sC]
      (first | (refine wpAnyH_take (i := 6) (v := ?_) (by simp only [gA, gB, gC]; rfl) (by kernel_rfl) (by kernel_rfl) (by kernel_rfl) (by exact fun _ _ _ h => h) (Or.inl ⟨by rfl, ?_⟩) (by assumption) ?_; rotate_left; (focus (intro w hSw; (try dsimp only at hSw); go_simp; try with_reducible rfl))) | (refine wpAnyH_take (i := 6) (v := undef) (by simp only [gA, gB, gC]; rfl) (by kernel_rfl) (by kernel_rfl) (by kernel_rfl) (by exact fun _ _ _ h => h) (Or.inr ⟨by rfl, rfl⟩) (by assumption) ?_) | fail); simp only [Act.put, sA, sB, sC]
      (first | (refine wpAnyH_take (i := 7) (v := ?_) (by simp only [gA, gB, gC]; rfl) (by kernel_rfl) (by kernel_rfl) (by kernel_rfl) (by exact fun _ _ _ h => h) (Or.inl ⟨by rfl, ?_⟩) (by assumption) ?_; rotate_left; (focus (intro w hSw; (try dsimp only at hSw); go_simp; try with_reducible rfl))) | (refine wpAnyH_take (i := 7) (v := undef) (by simp only [gA, gB, gC]; rfl) (by kernel_rfl) (by kernel_rfl) (by kernel_rfl) (by exact fun _ _ _ h => h) (Or.inr ⟨by rfl, rfl⟩) (by assumption) ?_) | fail); simp only [Act.put, sA, sB, sC]
      (first | (refine wpAnyH_take (i := 8) (v := ?_) (by simp only [gA, gB, gC]; rfl) (by kernel_rfl) (by kernel_rfl) (by kernel_rfl) (by exact fun _ _ _ h => h) (Or.inl ⟨by rfl, ?_⟩) (by assumption) ?_; rotate_left; (focus (intro w hSw; (try dsimp only at hSw); go_simp; try with_reducible rfl))) | (refine wpAnyH_take (i := 8) (v := undef) (by simp only [gA, gB, gC]; rfl) (by kernel_rfl) (by kernel_rfl) (by kernel_rfl) (by exact fun _ _ _ h => h) (Or.inr ⟨by rfl, rfl⟩) (by assumption) ?_) | fail); simp only [Act.put, sA, sB, sC]
      (first | (refine wpAnyH_take (i := 9) (v := ?_) (by simp only [gA, gB, gC]; rfl) (by kernel_rfl) (by kernel_rfl) (by kernel_rfl) (by exact fun _ _ _ h => h) (Or.inl ⟨by rfl, ?_⟩) (by assumption) ?_; rotate_left; (focus (intro w hSw; (try dsimp only at hSw); go_simp; try with_reducible rfl))) | (refine wpAnyH_take (i := 9) (v := undef) (by simp only [gA, gB, gC]; rfl) (by kernel_rfl) (by kernel_rfl) (by kernel_rfl) (by exact fun _ _ _ h => h) (Or.inr ⟨by rfl, rfl⟩) (by assumption) ?_) | fail); simp only [Act.put, sA, sB, sC]
      (first | (refine wpAnyH_take (i := 10) (v := ?_) (by simp only [gA, gB, gC]; rfl) (by kernel_rfl) (by kernel_rfl) (by kernel_rfl) (by exact fun _ _ _ h => h) (Or.inl ⟨by rfl, ?_⟩) (by assumption) ?_; rotate_left; (focus (intro w hSw; (try dsimp only at hSw); go_simp; try with_reducible rfl))) | (refine wpAnyH_take (i := 10) (v := undef) (by simp only [gA, gB, gC]; rfl) (by kernel_rfl) (by kernel_rfl) (by kernel_rfl) (by exact fun _ _ _ h => h) (Or.inr ⟨by rfl, rfl⟩) (by assumption) ?_) | fail); simp only [Act.put, sA, sB, sC]
      (first | (refine wpAnyH_take (i := 11) (v := ?_) (by simp only [gA, gB, gC]; rfl) (by kernel_rfl) (by kernel_rfl) (by kernel_rfl) (by exact fun _ _ _ h => h) (Or.inl ⟨by rfl, ?_⟩) (by assumption) ?_; rotate_left; (focus (intro w hSw; (try dsimp only at hSw); go_simp; try with_reducible rfl))) | (refine wpAnyH_take (i := 11) (v := undef) (by simp only [gA, gB, gC]; rfl) (by kernel_rfl) (by kernel_rfl) (by kernel_rfl) (by exact fun _ _ _ h => h) (Or.inr ⟨by rfl, rfl⟩) (by assumption) ?_) | fail); simp only [Act.put, sA, sB, sC]
      (first | (refine wpAnyH_take (i := 12) (v := ?_) (by simp only [gA, gB, gC]; rfl) (by kernel_rfl) (by kernel_rfl) (by kernel_rfl) (by exact fun _ _ _ h => h) (Or.inl ⟨by rfl, ?_⟩) (by assumption) ?_; rotate_left; (focus (intro w hSw; (try dsimp only at hSw); go_simp; try with_reducible rfl))) | (refine wpAnyH_take (i := 12) (v := undef) (by simp only [gA, gB, gC]; rfl) (by kernel_rfl) (by kernel_rfl) (by kernel_rfl) (by exact fun _ _ _ h => h) (Or.inr ⟨by rfl, rfl⟩) (by assumption) ?_) | fail); simp only [Act.put, sA, sB, sC]
      (first | (refine wpAnyH_take (i := 13) (v := ?_) (by simp only [gA, gB, gC]; rfl) (by kernel_rfl) (by kernel_rfl) (by kernel_rfl) (by exact fun _ _ _ h => h) (Or.inl ⟨by rfl, ?_⟩) (by assumption) ?_; rotate_left; (focus (intro w hSw; (try dsimp only at hSw); go_simp; try with_reducible rfl))) | (refine wpAnyH_take (i := 13) (v := undef) (by simp only [gA, gB, gC]; rfl) (by kernel_rfl) (by kernel_rfl) (by kernel_rfl) (by exact fun _ _ _ h => h) (Or.inr ⟨by rfl, rfl⟩) (by assumption) ?_) | fail); simp only [Act.put, sA, sB, sC]
      refine wpAnyH_done (by kernel_rfl) ?_ _
      clear q0 hrk hbk
      obtain ⟨A1, A2, v2, W2, v3, W3, v4, W4, hs1, hs2, hap2, hap3, hap4, hb2, ho4, hb4⟩ := put_tail wr.drew a1 n c1 k m x hn.out hk hle1 hno1 hn1 hrkd
      have hbz : Blk W2 w.heap.size x.cs := hbkd.same (hb2.block _ (Nat.lt_of_lt_of_le hlt1 hBd.size))
      have hrg := hbz.range
      obtain ⟨ht1, ht2⟩ := tw_take m k hall (fun q hq => by have := (List.getElem?_eq_some_iff.1 hq).1; rw [hn.out] at this; omega)
      rw [← ht1, ← ht2] at ho4
      replace ho4 := ho4.lower (Nat.le_trans (Nat.le_of_lt hlt1) hBd.size)
      have hBz := (hB2.trans (hBd.mono (Nat.le_of_lt hlt1))).trans (hb4.mono (Nat.le_trans (Nat.le_of_lt hlt1) hBd.size))
      obtain ⟨cs, hcx⟩ : ∃ cs, x.cs = cs := ⟨_, rfl⟩
      have hlen : cs.length = 16 := by rw [← hcx]; rfl
      rw [hcx] at hrg hap3
      rw [← hlen] at hsz
      clear hcx hcs hbz hb1 ht1 ht2 hb4 hb2
      go_wp2_with (first | (refine wpList_load_row rfl _ rfl w.heap.size rfl cs hrg hund rfl hsz ?_) | (refine wpList_build1 pn_ok (by decide) rfl _ rfl cs rfl hlen ?_) | (refine wpList_append rfl _ _ rfl rfl rfl rfl hap2 ?_) | (refine wpList_append rfl _ _ rfl rfl rfl rfl hap3 ?_) | (refine wpList_append rfl _ _ rfl rfl rfl rfl hap4 ?_) | fail)
      go_ret
      exact ⟨_, rfl, ho4, hBz⟩
end Go.Proofs.YtapgjdmnlkedgaaDoor

/-! THE FIRST NODES: the document's own First (donjonref11). Written by mk_tfirst.py. -/
namespace Go.Proofs.YtapgjdmnlkedgaaDoor
open Go.RowKit
set_option maxRecDepth 8000
set_option linter.unusedSimpArgs false
set_option linter.unusedVariables false

def lrow (l : Lab) : List Value := [.int .i64 l.s, .int .i64 l.c, .int .i64 l.i, .int .i64 l.k]
theorem lab_ok : ElemOk 25 22 4 lrow :=
  ⟨Tryd.underlying22, by
    obtain ⟨i, h1, h2, h3, h4⟩ := info_of (e := 25) (z := .agg #[.int .i64 0, .int .i64 0, .int .i64 0, .int .i64 0]) (sz := 4) (b := 32) (by kernel_rfl)
    exact ⟨i, _, _, h1, h2, h3, h4, rfl, by omega⟩, by omega, fun _ => rfl, fun x u hu => by simp [lrow] at hu; rcases hu with rfl | rfl | rfl | rfl <;> rfl⟩
theorem rlbottom_any (w : World) :
    Calls Tryd.prog 26 #[] w fun e w' => e = .returned bottomL.v ∧ Below w.heap.size w w' := by
  go_enter Tryd.func26, Tryd.ntmps26
  go_wp2
  refine bodyPost_ret (v := bottomL.v) (by simp [results, Tryd.results26, go_sem, bottomL]) rfl ⟨rfl, (Below.refl _ _).alloc (Nat.le_refl _) _⟩
section
variable {ops : Array Oper} {o : Oper} {a : Act} {w : World} {Q : Exit → Act → World → Prop} {S : World → Prop}
/-- A load of one cell, in a region that draws. -/
theorem yields_cell {T : TypeId} (hw : Region.wanted o (yielded ops a.tmps) = true) (x : Operand) (ho : o.op = .load T x) (y : Addr) (hx : a.eval x = .pointer (some y)) (v : Value) (hS : ∀ w, S w → w.cell? y = some v) (hl : ∀ w y v, w.cell? y = some v → (Instr.loadAt T (.pointer (some y))).run Tryd.prog w = .ok v w) : YieldsIf Tryd.prog ops S o v a :=
  .inl ⟨hw, fun w hw' => by
    unfold execOp
    simp only [ho, hx, Sem.run_bind, hl w y v (hS w hw'), Result.andThen_ok]
    rfl⟩
theorem step_conv {t u : TypeId} {K : Act → World → Prop} {E : Prop} {v r : Value} (hg : o.guard = none) (x : Operand) (ho : o.op = .convert t u x) (hx : a.eval x = v) (hr : (convert t u v).run Tryd.prog w = .ok r w) (hK : K (a.put o.dst r) w) :
    if Region.wanted o (yielded ops a.tmps) = true then Oper.wp Tryd.prog o a w K Q else E := by
  have hw : Region.wanted o (yielded ops a.tmps) = true := by simp [Region.wanted, hg]
  rw [if_pos hw]
  unfold Oper.wp execOp
  simp only [ho, hx, Sem.run_bind, hr, Result.andThen_ok]
  exact hK
end
theorem slab_load (w : World) (y : Addr) (v : Value) (h : w.cell? y = some v) : (Instr.loadAt 22 (.pointer (some y))).run Tryd.prog w = .ok v w := by
  simp [go_sem, h]
def firstP (ts : List Lab) (i : Nat) (ag : Option Addr) : List PN := (firstTo ts i).map fun n => ⟨n, ag, 1, none, 0⟩
theorem firstP_len (ts : List Lab) (i : Nat) (ag : Option Addr) : (firstP ts i ag).length = (distTo ts i).length + 1 := by simp [firstP, firstTo]
theorem firstP_names (ts : List Lab) (i : Nat) (ag : Option Addr) : namesP (firstP ts i ag) = firstTo ts i := by
  unfold namesP firstP
  rw [List.map_map]
  exact List.map_id' _
theorem firstP_succ (ts : List Lab) (i : Nat) (ag : Option Addr) : firstP ts (i + 1) ag = if (ts.take i).any (fun t => labEq t (ts.getD i bottomL)) = true then firstP ts i ag else firstP ts i ag ++ [⟨dirN (distTo ts i).length (ts.getD i bottomL), ag, 1, none, 0⟩] := by
  unfold firstP
  rw [first_succ]
  split
  · rfl
  · simp
theorem dist_succ (ts : List Lab) (i : Nat) : (distTo ts (i + 1)).length = if (ts.take i).any (fun t => labEq t (ts.getD i bottomL)) = true then (distTo ts i).length else (distTo ts i).length + 1 := by
  rw [distTo]
  split <;> simp
theorem l_path (q : Nat) : (⟨#[47, 108]⟩ : ByteArray) ++ chr (48 + q) = ⟨#[47, 108, UInt8.ofNat (48 + q)]⟩ := by
  apply bytes_inj
  rw [bytes_append]
  rfl
theorem dir_cs (w : World) (q : Nat) (tt : Lab) : (PN.cs ⟨dirN q tt, some ⟨w.heap.size + 1, 0, none⟩, 1, none, 0⟩) = [.string (⟨#[47, 108]⟩ ++ chr (48 + q)), .bool true, .int .i64 tt.s, .int .i64 tt.c, .int .i64 tt.i, .int .i64 tt.k, .slice (some ⟨w.heap.size + 1, 0, none⟩) 1 1, .int .i64 0, .int .i64 0, .int .i64 0, .int .i64 0, .slice none 0 0, .int .i64 bottomL.s, .int .i64 bottomL.c, .int .i64 bottomL.i, .int .i64 bottomL.k] := by
  rw [l_path]
  rfl
theorem any_take {ts : List Lab} {j : Nat} {t : Lab} (h : ts[j]? = some t) (f : Lab → Bool) : (ts.take (j + 1)).any f = ((ts.take j).any f || f t) := by
  rw [List.take_add_one, h]
  simp
theorem own_one (x : PN) (W : World) {base : Nat} (hb : base ≤ W.heap.size) : OwnN (W.alloc (.cells x.cs.toArray 36)) base (.slice (some ⟨W.heap.size, 0, none⟩) 1 1) [x] := by
  refine ⟨by simp [pn_len], .inr ⟨W.heap.size, 1, x.cs.toArray, rfl, hb, heap_alloc_new W _, Nat.le_refl _, by simp only [maxLen]; omega, by simp [pn_len], ?_⟩⟩
  simp
  exact List.take_of_length_le (by rw [pn_len]; omega)
/-- Where First stands: the config's box, the list for all. -/
structure FsZ (w W : World) (ta : Option Addr) (n ct : Nat) : Prop where
  box : W.cell? ⟨w.heap.size, 0, none⟩ = some (.slice ta n ct)
  all : GrsAt W (some ⟨w.heap.size + 1, 0, none⟩) allG
  bl : Below w.heap.size w W
  sz : w.heap.size + 2 ≤ W.heap.size
section
variable {w W W' : World} {ta : Option Addr} {n ct : Nat}
theorem FsZ.grown (h : FsZ w W ta n ct) (b : Below (w.heap.size + 2) W W') : FsZ w W' ta n ct := by
  refine ⟨(b.cell (p := ⟨w.heap.size, 0, none⟩) (by show w.heap.size < w.heap.size + 2; omega)).trans h.box, fun j q hq => ?_, h.bl.trans (b.mono (by omega)), Nat.le_trans h.sz b.size⟩
  obtain ⟨y, hy, h1, h2⟩ := h.all j q hq
  obtain rfl := Option.some.inj hy
  have hb : ((⟨w.heap.size + 1, 0, none⟩ : Addr).add (j * 2)).block < w.heap.size + 2 := by rw [add_at]; show w.heap.size + 1 < _; omega
  exact ⟨_, rfl, (b.cell hb).trans h1, (b.cell (p := ⟨_, _, none⟩) hb).trans h2⟩
theorem FsZ.then (h : FsZ w W ta n ct) (b : Below W.heap.size W W') : FsZ w W' ta n ct := h.grown (b.mono h.sz)
theorem FsZ.lab {y : Addr} {ts : List Lab} (h : FsZ w W (some y) n ct) (hl : RowAt 4 lrow w (some y) ts) {j : Nat} {t : Lab} (ht : ts[j]? = some t) : CellsAt W (y.add (j * 4)) [.int .i64 t.s, .int .i64 t.c, .int .i64 t.i, .int .i64 t.k] := (hl.below lab_ok.len h.bl).at lab_ok.len ht
end
set_option maxRecDepth 20000 in
set_option maxHeartbeats 8000000 in
theorem rfirstT_any (ta : Option Addr) (ct : Nat) (ts : List Lab) (ua ra : Option Addr) (nu cu nr cr : Nat) (hn9 : ts.length ≤ 9) (w : World) (hl : RowAt 4 lrow w ta ts) :
    Calls Tryd.prog 25 #[.agg #[.slice ta ts.length ct, .slice ua nu cu, .slice ra nr cr]] w fun e w' => ∃ v, e = .returned v ∧ OwnN w' w.heap.size v (firstP ts ts.length (some ⟨w.heap.size + 1, 0, none⟩)) ∧ GrsAt w' (some ⟨w.heap.size + 1, 0, none⟩) allG ∧ Below w.heap.size w w' := by
  have hsl : (Tryd.prog.info? 25).map (·.size) = some 4 := by kernel_rfl
  have heq := run_eql_lab
  obtain ⟨n, hn⟩ : ∃ n, ts.length = n := ⟨_, rfl⟩
  rw [hn] at hn9 ⊢
  replace hn : Aside (ts.length = n) := hn
  have hdl := dist_len ts
  have h0 : FsZ w ((w.alloc (.cells #[.slice ta n ct, .slice ua nu cu, .slice ra nr cr] 66)).alloc (.cells #[.string ⟨#[42]⟩, .int .i64 7] 80)) ta n ct := by
    have b1 := alloc_below w (.cells #[.slice ta n ct, .slice ua nu cu, .slice ra nr cr] 66)
    have m1 := blk_alloc w #[.slice ta n ct, .slice ua nu cu, .slice ra nr cr] 66
    have s1 := World.size_alloc w (.cells #[.slice ta n ct, .slice ua nu cu, .slice ra nr cr] 66)
    generalize w.alloc (.cells #[.slice ta n ct, .slice ua nu cu, .slice ra nr cr] 66) = W1 at *
    have b2 := alloc_below W1 (.cells #[.string ⟨#[42]⟩, .int .i64 7] 80)
    have m2 := blk_alloc W1 #[.string ⟨#[42]⟩, .int .i64 7] 80
    have s2 := World.size_alloc W1 (.cells #[.string ⟨#[42]⟩, .int .i64 7] 80)
    rw [s1] at m2
    refine ⟨((m1.same (b2.block _ (by omega))) 0 _ rfl).1, fun j q hq => ?_, Below.then b1 b2, by omega⟩
    have hj : j = 0 := by have := (List.getElem?_eq_some_iff.1 hq).1; simp [allG] at this; omega
    subst hj
    obtain rfl : (⟨starS, 7⟩ : Gr) = q := by simpa [allG] using hq
    exact ⟨_, rfl, (m2 0 _ rfl).1, (m2 1 _ rfl).1⟩
  go_enter Tryd.func25, Tryd.ntmps25
  go_wp2_with fail
  generalize (w.alloc (.cells #[.slice ta n ct, .slice ua nu cu, .slice ra nr cr] 66)).alloc (.cells #[.string ⟨#[42]⟩, .int .i64 7] 80) = W0 at *
  refine (rlbottom_any W0).mono ?_
  rintro e W1 ⟨rfl, hB1⟩
  have h1 := h0.then hB1
  go_wp2_with fail
  refine (rlbottom_any W1).mono ?_
  rintro e W2 ⟨rfl, hB2⟩
  have h2 := h1.then hB2
  have hrt : OwnN (W2.alloc (.cells [.string ⟨#[47]⟩, .bool true, .int .i64 bottomL.s, .int .i64 bottomL.c, .int .i64 bottomL.i, .int .i64 bottomL.k, .slice (some ⟨w.heap.size + 1, 0, none⟩) 1 1, .int .i64 0, .int .i64 0, .int .i64 0, .int .i64 0, .slice none 0 0, .int .i64 bottomL.s, .int .i64 bottomL.c, .int .i64 bottomL.i, .int .i64 bottomL.k].toArray 36)) (w.heap.size + 2) (.slice (some ⟨W2.heap.size, 0, none⟩) 1 1) (firstP ts 0 (some ⟨w.heap.size + 1, 0, none⟩)) := own_one (⟨rootN, some ⟨w.heap.size + 1, 0, none⟩, 1, none, 0⟩ : PN) W2 h2.sz
  have h3 := h2.then (alloc_below W2 (.cells [.string ⟨#[47]⟩, .bool true, .int .i64 bottomL.s, .int .i64 bottomL.c, .int .i64 bottomL.i, .int .i64 bottomL.k, .slice (some ⟨w.heap.size + 1, 0, none⟩) 1 1, .int .i64 0, .int .i64 0, .int .i64 0, .int .i64 0, .slice none 0 0, .int .i64 bottomL.s, .int .i64 bottomL.c, .int .i64 bottomL.i, .int .i64 bottomL.k].toArray 36))
  clear h0 h1 h2 hB1 hB2
  go_wp2_with (first | (refine wpList_build1 pn_ok (by decide) rfl _ rfl [.string ⟨#[47]⟩, .bool true, .int .i64 bottomL.s, .int .i64 bottomL.c, .int .i64 bottomL.i, .int .i64 bottomL.k, .slice (some ⟨w.heap.size + 1, 0, none⟩) 1 1, .int .i64 0, .int .i64 0, .int .i64 0, .int .i64 0, .slice none 0 0, .int .i64 bottomL.s, .int .i64 bottomL.c, .int .i64 bottomL.i, .int .i64 bottomL.k] rfl rfl ?_) | fail)
  generalize W2.alloc (.cells [.string ⟨#[47]⟩, .bool true, .int .i64 bottomL.s, .int .i64 bottomL.c, .int .i64 bottomL.i, .int .i64 bottomL.k, .slice (some ⟨w.heap.size + 1, 0, none⟩) 1 1, .int .i64 0, .int .i64 0, .int .i64 0, .int .i64 0, .slice none 0 0, .int .i64 bottomL.s, .int .i64 bottomL.c, .int .i64 bottomL.i, .int .i64 bottomL.k].toArray 36) = W3 at *
  generalize W2.heap.size = rb at *
  go_loopw [4, 5, 6] (fun t4 t5 t6 wr => ∃ i : Nat, i ≤ n ∧ t6 = .int .i64 (i : Int) ∧ ∃ q : Nat, t5 = .int .i64 (q : Int) ∧ Aside (q = (distTo ts i).length) ∧ FsZ w wr ta n ct ∧ OwnN wr (w.heap.size + 2) t4 (firstP ts i (some ⟨w.heap.size + 1, 0, none⟩))) (fun _ _ t6 _ => n - (Go.RowKit.intOf t6).toNat)
  case atStart => exact ⟨0, by omega, rfl, 0, rfl, rfl, h3, hrt⟩
  case round =>
    clear h3 hrt
    obtain ⟨i, hi, rfl, q, rfl, hq, hS, ho⟩ := hrel
    have hbx := hS.box
    have hq9 : q ≤ 9 := by rw [hq.out]; have := hdl i; omega
    by_cases hlt : i < n
    · obtain ⟨tt, hti⟩ : ∃ tt, ts[i]? = some tt := ⟨_, List.getElem?_eq_getElem (by rw [hn.out]; exact hlt)⟩
      have hgd : ts.getD i bottomL = tt := by rw [List.getD_eq_getElem?_getD, hti]; rfl
      obtain ⟨y, rfl, -⟩ := hl i tt hti
      have hfs := firstP_succ ts i (some ⟨w.heap.size + 1, 0, none⟩)
      have hds := dist_succ ts i
      rw [hgd] at hfs hds
      replace hfs : Aside _ := hfs
      replace hds : Aside _ := hds
      clear hgd
      go_wp2_with fail
      clear hbx
      go_loopw [7, 8] (fun t7 t8 wq => ∃ j : Nat, j ≤ i ∧ t8 = .int .i64 (j : Int) ∧ t7 = .bool ((ts.take j).any (fun t => labEq t tt)) ∧ FsZ w wq (some y) n ct ∧ Below wr.heap.size wr wq) (fun _ t8 _ => i - (Go.RowKit.intOf t8).toNat)
      case atStart => exact ⟨0, by omega, rfl, rfl, hS, Below.refl _ _⟩
      case round =>
        obtain ⟨j, hj, rfl, rfl, hS2, hB⟩ := hrel
        have ho2 := ho.below hB
        by_cases hlt2 : j < i
        · obtain ⟨tj, htj⟩ : ∃ tj, ts[j]? = some tj := ⟨_, List.getElem?_eq_getElem (by rw [hn.out]; omega)⟩
          have hat := any_take htj (fun t => labEq t tt)
          have hS0 : FsZ w wr.drew (some y) n ct := hS2.then (Below.refl _ _).drew
          have hBd := hB.drew
          have i1 : (j : Int) < (i : Int) := by omega
          have i2 : (j : Int) < (n : Int) := by omega
          have i3 : (i : Int) < (n : Int) := by omega
          cases hb : (ts.take j).any (fun t => labEq t tt)
          · rw [hb, Bool.false_or] at hat
            clear hS ho ho2
            go_wp2_with fail
            refine wp_region_held_drew (S := (fun W => FsZ w W (some y) n ct)) (by kernel_rfl) (by exact hS0) ?_
            intro hHeld
            (first | (refine wpAnyH_take (i := 0) (v := ?_) (by simp only [gA, gB, gC]; rfl) (by kernel_rfl) (by kernel_rfl) (by kernel_rfl) (by exact fun _ _ _ h => h) (Or.inl ⟨by rfl, ?_⟩) (by assumption) ?_; rotate_left; (focus (intro w hSw; (try dsimp only at hSw); go_simp; try with_reducible rfl))) | (refine wpAnyH_take (i := 0) (v := undef) (by simp only [gA, gB, gC]; rfl) (by kernel_rfl) (by kernel_rfl) (by kernel_rfl) (by exact fun _ _ _ h => h) (Or.inr ⟨by rfl, rfl⟩) (by assumption) ?_) | fail); simp only [Act.put, sA, sB, sC, Bool.not_true, Bool.not_false]
            (first | (refine wpAnyH_take (i := 1) (v := ?_) (by simp only [gA, gB, gC]; rfl) (by kernel_rfl) (by kernel_rfl) (by kernel_rfl) (by exact fun _ _ _ h => h) (Or.inl ⟨by rfl, ?_⟩) (by assumption) ?_; rotate_left; (focus (intro w hSw; (try dsimp only at hSw); go_simp; try with_reducible rfl))) | (refine wpAnyH_take (i := 1) (v := undef) (by simp only [gA, gB, gC]; rfl) (by kernel_rfl) (by kernel_rfl) (by kernel_rfl) (by exact fun _ _ _ h => h) (Or.inr ⟨by rfl, rfl⟩) (by assumption) ?_) | fail); simp only [Act.put, sA, sB, sC, Bool.not_true, Bool.not_false]
            (first | (refine wpAnyH_take (i := 2) (v := ?_) (by simp only [gA, gB, gC]; rfl) (by kernel_rfl) (by kernel_rfl) (by kernel_rfl) (by exact fun _ _ _ h => h) (Or.inl ⟨by rfl, ?_⟩) (by assumption) ?_; rotate_left; (focus (intro w hSw; (try dsimp only at hSw); go_simp; try with_reducible rfl))) | (refine wpAnyH_take (i := 2) (v := undef) (by simp only [gA, gB, gC]; rfl) (by kernel_rfl) (by kernel_rfl) (by kernel_rfl) (by exact fun _ _ _ h => h) (Or.inr ⟨by rfl, rfl⟩) (by assumption) ?_) | fail); simp only [Act.put, sA, sB, sC, Bool.not_true, Bool.not_false]
            (first | (refine wpAnyH_take (i := 3) (v := _) (by simp only [gA, gB, gC]; rfl) (by kernel_rfl) (by kernel_rfl) (by kernel_rfl) (by exact fun _ _ _ h => h) (yields_cell (by rfl) _ rfl ⟨w.heap.size, 0, none⟩ rfl (.slice (some y) n ct) (fun _ q => q.box) slab_load) (by assumption) ?_) | (refine wpAnyH_take (i := 3) (v := undef) (by simp only [gA, gB, gC]; rfl) (by kernel_rfl) (by kernel_rfl) (by kernel_rfl) (by exact fun _ _ _ h => h) (Or.inr ⟨by rfl, rfl⟩) (by assumption) ?_) | fail); simp only [Act.put, sA, sB, sC, Bool.not_true, Bool.not_false]
            (first | (refine wpAnyH_take (i := 4) (v := ?_) (by simp only [gA, gB, gC]; rfl) (by kernel_rfl) (by kernel_rfl) (by kernel_rfl) (by exact fun _ _ _ h => h) (Or.inl ⟨by rfl, ?_⟩) (by assumption) ?_; rotate_left; (focus (intro w hSw; (try dsimp only at hSw); go_simp; try with_reducible rfl))) | (refine wpAnyH_take (i := 4) (v := undef) (by simp only [gA, gB, gC]; rfl) (by kernel_rfl) (by kernel_rfl) (by kernel_rfl) (by exact fun _ _ _ h => h) (Or.inr ⟨by rfl, rfl⟩) (by assumption) ?_) | fail); simp only [Act.put, sA, sB, sC, Bool.not_true, Bool.not_false]
            (first | (refine wpAnyH_take (i := 5) (v := ?_) (by simp only [gA, gB, gC]; rfl) (by kernel_rfl) (by kernel_rfl) (by kernel_rfl) (by exact fun _ _ _ h => h) (Or.inl ⟨by rfl, ?_⟩) (by assumption) ?_; rotate_left; (focus (intro w hSw; (try dsimp only at hSw); go_simp; try with_reducible rfl))) | (refine wpAnyH_take (i := 5) (v := undef) (by simp only [gA, gB, gC]; rfl) (by kernel_rfl) (by kernel_rfl) (by kernel_rfl) (by exact fun _ _ _ h => h) (Or.inr ⟨by rfl, rfl⟩) (by assumption) ?_) | fail); simp only [Act.put, sA, sB, sC, Bool.not_true, Bool.not_false]
            (first | (refine wpAnyH_take (i := 6) (v := _) (by simp only [gA, gB, gC]; rfl) (by kernel_rfl) (by kernel_rfl) (by kernel_rfl) (by exact fun _ _ _ h => h) (yields_at (by rfl) _ rfl _ rfl [.int .i64 tj.s, .int .i64 tj.c, .int .i64 tj.i, .int .i64 tj.k] (fun _ q => q.lab hl htj) Tryd.underlying25 rfl hsl) (by assumption) ?_) | (refine wpAnyH_take (i := 6) (v := undef) (by simp only [gA, gB, gC]; rfl) (by kernel_rfl) (by kernel_rfl) (by kernel_rfl) (by exact fun _ _ _ h => h) (Or.inr ⟨by rfl, rfl⟩) (by assumption) ?_) | fail); simp only [Act.put, sA, sB, sC, Bool.not_true, Bool.not_false]
            (first | (refine wpAnyH_take (i := 7) (v := ?_) (by simp only [gA, gB, gC]; rfl) (by kernel_rfl) (by kernel_rfl) (by kernel_rfl) (by exact fun _ _ _ h => h) (Or.inl ⟨by rfl, ?_⟩) (by assumption) ?_; rotate_left; (focus (intro w hSw; (try dsimp only at hSw); go_simp; try with_reducible rfl))) | (refine wpAnyH_take (i := 7) (v := undef) (by simp only [gA, gB, gC]; rfl) (by kernel_rfl) (by kernel_rfl) (by kernel_rfl) (by exact fun _ _ _ h => h) (Or.inr ⟨by rfl, rfl⟩) (by assumption) ?_) | fail); simp only [Act.put, sA, sB, sC, Bool.not_true, Bool.not_false]
            (first | (refine wpAnyH_take (i := 8) (v := _) (by simp only [gA, gB, gC]; rfl) (by kernel_rfl) (by kernel_rfl) (by kernel_rfl) (by exact fun _ _ _ h => h) (yields_cell (by rfl) _ rfl ⟨w.heap.size, 0, none⟩ rfl (.slice (some y) n ct) (fun _ q => q.box) slab_load) (by assumption) ?_) | (refine wpAnyH_take (i := 8) (v := undef) (by simp only [gA, gB, gC]; rfl) (by kernel_rfl) (by kernel_rfl) (by kernel_rfl) (by exact fun _ _ _ h => h) (Or.inr ⟨by rfl, rfl⟩) (by assumption) ?_) | fail); simp only [Act.put, sA, sB, sC, Bool.not_true, Bool.not_false]
            (first | (refine wpAnyH_take (i := 9) (v := ?_) (by simp only [gA, gB, gC]; rfl) (by kernel_rfl) (by kernel_rfl) (by kernel_rfl) (by exact fun _ _ _ h => h) (Or.inl ⟨by rfl, ?_⟩) (by assumption) ?_; rotate_left; (focus (intro w hSw; (try dsimp only at hSw); go_simp; try with_reducible rfl))) | (refine wpAnyH_take (i := 9) (v := undef) (by simp only [gA, gB, gC]; rfl) (by kernel_rfl) (by kernel_rfl) (by kernel_rfl) (by exact fun _ _ _ h => h) (Or.inr ⟨by rfl, rfl⟩) (by assumption) ?_) | fail); simp only [Act.put, sA, sB, sC, Bool.not_true, Bool.not_false]
            (first | (refine wpAnyH_take (i := 10) (v := ?_) (by simp only [gA, gB, gC]; rfl) (by kernel_rfl) (by kernel_rfl) (by kernel_rfl) (by exact fun _ _ _ h => h) (Or.inl ⟨by rfl, ?_⟩) (by assumption) ?_; rotate_left; (focus (intro w hSw; (try dsimp only at hSw); go_simp; try with_reducible rfl))) | (refine wpAnyH_take (i := 10) (v := undef) (by simp only [gA, gB, gC]; rfl) (by kernel_rfl) (by kernel_rfl) (by kernel_rfl) (by exact fun _ _ _ h => h) (Or.inr ⟨by rfl, rfl⟩) (by assumption) ?_) | fail); simp only [Act.put, sA, sB, sC, Bool.not_true, Bool.not_false]
            (first | (refine wpAnyH_take (i := 11) (v := _) (by simp only [gA, gB, gC]; rfl) (by kernel_rfl) (by kernel_rfl) (by kernel_rfl) (by exact fun _ _ _ h => h) (yields_at (by rfl) _ rfl _ rfl [.int .i64 tt.s, .int .i64 tt.c, .int .i64 tt.i, .int .i64 tt.k] (fun _ q => q.lab hl hti) Tryd.underlying25 rfl hsl) (by assumption) ?_) | (refine wpAnyH_take (i := 11) (v := undef) (by simp only [gA, gB, gC]; rfl) (by kernel_rfl) (by kernel_rfl) (by kernel_rfl) (by exact fun _ _ _ h => h) (Or.inr ⟨by rfl, rfl⟩) (by assumption) ?_) | fail); simp only [Act.put, sA, sB, sC, Bool.not_true, Bool.not_false]
            (first | (refine wpAnyH_take (i := 12) (v := ?_) (by simp only [gA, gB, gC]; rfl) (by kernel_rfl) (by kernel_rfl) (by kernel_rfl) (by exact fun _ _ _ h => h) (Or.inl ⟨by rfl, ?_⟩) (by assumption) ?_; rotate_left; (focus (intro w hSw; (try dsimp only at hSw); go_simp; try with_reducible rfl))) | (refine wpAnyH_take (i := 12) (v := undef) (by simp only [gA, gB, gC]; rfl) (by kernel_rfl) (by kernel_rfl) (by kernel_rfl) (by exact fun _ _ _ h => h) (Or.inr ⟨by rfl, rfl⟩) (by assumption) ?_) | fail); simp only [Act.put, sA, sB, sC, Bool.not_true, Bool.not_false]
            (first | (refine wpAnyH_take (i := 13) (v := ?_) (by simp only [gA, gB, gC]; rfl) (by kernel_rfl) (by kernel_rfl) (by kernel_rfl) (by exact fun _ _ _ h => h) (Or.inl ⟨by rfl, ?_⟩) (by assumption) ?_; rotate_left; (focus (intro w hSw; (try dsimp only at hSw); go_simp; try with_reducible rfl))) | (refine wpAnyH_take (i := 13) (v := undef) (by simp only [gA, gB, gC]; rfl) (by kernel_rfl) (by kernel_rfl) (by kernel_rfl) (by exact fun _ _ _ h => h) (Or.inr ⟨by rfl, rfl⟩) (by assumption) ?_) | fail); simp only [Act.put, sA, sB, sC, Bool.not_true, Bool.not_false]
            (first | (refine wpAnyH_take (i := 14) (v := ?_) (by simp only [gA, gB, gC]; rfl) (by kernel_rfl) (by kernel_rfl) (by kernel_rfl) (by exact fun _ _ _ h => h) (Or.inl ⟨by rfl, ?_⟩) (by assumption) ?_; rotate_left; (focus (intro w hSw; (try dsimp only at hSw); go_simp; try with_reducible rfl))) | (refine wpAnyH_take (i := 14) (v := undef) (by simp only [gA, gB, gC]; rfl) (by kernel_rfl) (by kernel_rfl) (by kernel_rfl) (by exact fun _ _ _ h => h) (Or.inr ⟨by rfl, rfl⟩) (by assumption) ?_) | fail); simp only [Act.put, sA, sB, sC, Bool.not_true, Bool.not_false]
            refine wpAnyH_done (by kernel_rfl) ?_ _
            go_wp2_with fail
            exact ⟨⟨j + 1, by omega, by simp, by rw [hat], hS0, hBd⟩, by simp [Go.RowKit.intOf]; omega⟩
          · rw [hb, Bool.true_or] at hat
            clear hS ho ho2
            go_wp2_with fail
            refine wp_region_held_drew (S := (fun W => FsZ w W (some y) n ct)) (by kernel_rfl) (by exact hS0) ?_
            intro hHeld
            (first | (refine wpAnyH_take (i := 0) (v := ?_) (by simp only [gA, gB, gC]; rfl) (by kernel_rfl) (by kernel_rfl) (by kernel_rfl) (by exact fun _ _ _ h => h) (Or.inl ⟨by rfl, ?_⟩) (by assumption) ?_; rotate_left; (focus (intro w hSw; (try dsimp only at hSw); go_simp; try with_reducible rfl))) | (refine wpAnyH_take (i := 0) (v := undef) (by simp only [gA, gB, gC]; rfl) (by kernel_rfl) (by kernel_rfl) (by kernel_rfl) (by exact fun _ _ _ h => h) (Or.inr ⟨by rfl, rfl⟩) (by assumption) ?_) | fail); simp only [Act.put, sA, sB, sC, Bool.not_true, Bool.not_false]
            (first | (refine wpAnyH_take (i := 1) (v := ?_) (by simp only [gA, gB, gC]; rfl) (by kernel_rfl) (by kernel_rfl) (by kernel_rfl) (by exact fun _ _ _ h => h) (Or.inl ⟨by rfl, ?_⟩) (by assumption) ?_; rotate_left; (focus (intro w hSw; (try dsimp only at hSw); go_simp; try with_reducible rfl))) | (refine wpAnyH_take (i := 1) (v := undef) (by simp only [gA, gB, gC]; rfl) (by kernel_rfl) (by kernel_rfl) (by kernel_rfl) (by exact fun _ _ _ h => h) (Or.inr ⟨by rfl, rfl⟩) (by assumption) ?_) | fail); simp only [Act.put, sA, sB, sC, Bool.not_true, Bool.not_false]
            (first | (refine wpAnyH_take (i := 2) (v := ?_) (by simp only [gA, gB, gC]; rfl) (by kernel_rfl) (by kernel_rfl) (by kernel_rfl) (by exact fun _ _ _ h => h) (Or.inl ⟨by rfl, ?_⟩) (by assumption) ?_; rotate_left; (focus (intro w hSw; (try dsimp only at hSw); go_simp; try with_reducible rfl))) | (refine wpAnyH_take (i := 2) (v := undef) (by simp only [gA, gB, gC]; rfl) (by kernel_rfl) (by kernel_rfl) (by kernel_rfl) (by exact fun _ _ _ h => h) (Or.inr ⟨by rfl, rfl⟩) (by assumption) ?_) | fail); simp only [Act.put, sA, sB, sC, Bool.not_true, Bool.not_false]
            (first | (refine wpAnyH_take (i := 3) (v := _) (by simp only [gA, gB, gC]; rfl) (by kernel_rfl) (by kernel_rfl) (by kernel_rfl) (by exact fun _ _ _ h => h) (yields_cell (by rfl) _ rfl ⟨w.heap.size, 0, none⟩ rfl (.slice (some y) n ct) (fun _ q => q.box) slab_load) (by assumption) ?_) | (refine wpAnyH_take (i := 3) (v := undef) (by simp only [gA, gB, gC]; rfl) (by kernel_rfl) (by kernel_rfl) (by kernel_rfl) (by exact fun _ _ _ h => h) (Or.inr ⟨by rfl, rfl⟩) (by assumption) ?_) | fail); simp only [Act.put, sA, sB, sC, Bool.not_true, Bool.not_false]
            (first | (refine wpAnyH_take (i := 4) (v := ?_) (by simp only [gA, gB, gC]; rfl) (by kernel_rfl) (by kernel_rfl) (by kernel_rfl) (by exact fun _ _ _ h => h) (Or.inl ⟨by rfl, ?_⟩) (by assumption) ?_; rotate_left; (focus (intro w hSw; (try dsimp only at hSw); go_simp; try with_reducible rfl))) | (refine wpAnyH_take (i := 4) (v := undef) (by simp only [gA, gB, gC]; rfl) (by kernel_rfl) (by kernel_rfl) (by kernel_rfl) (by exact fun _ _ _ h => h) (Or.inr ⟨by rfl, rfl⟩) (by assumption) ?_) | fail); simp only [Act.put, sA, sB, sC, Bool.not_true, Bool.not_false]
            (first | (refine wpAnyH_take (i := 5) (v := ?_) (by simp only [gA, gB, gC]; rfl) (by kernel_rfl) (by kernel_rfl) (by kernel_rfl) (by exact fun _ _ _ h => h) (Or.inl ⟨by rfl, ?_⟩) (by assumption) ?_; rotate_left; (focus (intro w hSw; (try dsimp only at hSw); go_simp; try with_reducible rfl))) | (refine wpAnyH_take (i := 5) (v := undef) (by simp only [gA, gB, gC]; rfl) (by kernel_rfl) (by kernel_rfl) (by kernel_rfl) (by exact fun _ _ _ h => h) (Or.inr ⟨by rfl, rfl⟩) (by assumption) ?_) | fail); simp only [Act.put, sA, sB, sC, Bool.not_true, Bool.not_false]
            (first | (refine wpAnyH_take (i := 6) (v := _) (by simp only [gA, gB, gC]; rfl) (by kernel_rfl) (by kernel_rfl) (by kernel_rfl) (by exact fun _ _ _ h => h) (yields_at (by rfl) _ rfl _ rfl [.int .i64 tj.s, .int .i64 tj.c, .int .i64 tj.i, .int .i64 tj.k] (fun _ q => q.lab hl htj) Tryd.underlying25 rfl hsl) (by assumption) ?_) | (refine wpAnyH_take (i := 6) (v := undef) (by simp only [gA, gB, gC]; rfl) (by kernel_rfl) (by kernel_rfl) (by kernel_rfl) (by exact fun _ _ _ h => h) (Or.inr ⟨by rfl, rfl⟩) (by assumption) ?_) | fail); simp only [Act.put, sA, sB, sC, Bool.not_true, Bool.not_false]
            (first | (refine wpAnyH_take (i := 7) (v := ?_) (by simp only [gA, gB, gC]; rfl) (by kernel_rfl) (by kernel_rfl) (by kernel_rfl) (by exact fun _ _ _ h => h) (Or.inl ⟨by rfl, ?_⟩) (by assumption) ?_; rotate_left; (focus (intro w hSw; (try dsimp only at hSw); go_simp; try with_reducible rfl))) | (refine wpAnyH_take (i := 7) (v := undef) (by simp only [gA, gB, gC]; rfl) (by kernel_rfl) (by kernel_rfl) (by kernel_rfl) (by exact fun _ _ _ h => h) (Or.inr ⟨by rfl, rfl⟩) (by assumption) ?_) | fail); simp only [Act.put, sA, sB, sC, Bool.not_true, Bool.not_false]
            (first | (refine wpAnyH_take (i := 8) (v := _) (by simp only [gA, gB, gC]; rfl) (by kernel_rfl) (by kernel_rfl) (by kernel_rfl) (by exact fun _ _ _ h => h) (yields_cell (by rfl) _ rfl ⟨w.heap.size, 0, none⟩ rfl (.slice (some y) n ct) (fun _ q => q.box) slab_load) (by assumption) ?_) | (refine wpAnyH_take (i := 8) (v := undef) (by simp only [gA, gB, gC]; rfl) (by kernel_rfl) (by kernel_rfl) (by kernel_rfl) (by exact fun _ _ _ h => h) (Or.inr ⟨by rfl, rfl⟩) (by assumption) ?_) | fail); simp only [Act.put, sA, sB, sC, Bool.not_true, Bool.not_false]
            (first | (refine wpAnyH_take (i := 9) (v := ?_) (by simp only [gA, gB, gC]; rfl) (by kernel_rfl) (by kernel_rfl) (by kernel_rfl) (by exact fun _ _ _ h => h) (Or.inl ⟨by rfl, ?_⟩) (by assumption) ?_; rotate_left; (focus (intro w hSw; (try dsimp only at hSw); go_simp; try with_reducible rfl))) | (refine wpAnyH_take (i := 9) (v := undef) (by simp only [gA, gB, gC]; rfl) (by kernel_rfl) (by kernel_rfl) (by kernel_rfl) (by exact fun _ _ _ h => h) (Or.inr ⟨by rfl, rfl⟩) (by assumption) ?_) | fail); simp only [Act.put, sA, sB, sC, Bool.not_true, Bool.not_false]
            (first | (refine wpAnyH_take (i := 10) (v := ?_) (by simp only [gA, gB, gC]; rfl) (by kernel_rfl) (by kernel_rfl) (by kernel_rfl) (by exact fun _ _ _ h => h) (Or.inl ⟨by rfl, ?_⟩) (by assumption) ?_; rotate_left; (focus (intro w hSw; (try dsimp only at hSw); go_simp; try with_reducible rfl))) | (refine wpAnyH_take (i := 10) (v := undef) (by simp only [gA, gB, gC]; rfl) (by kernel_rfl) (by kernel_rfl) (by kernel_rfl) (by exact fun _ _ _ h => h) (Or.inr ⟨by rfl, rfl⟩) (by assumption) ?_) | fail); simp only [Act.put, sA, sB, sC, Bool.not_true, Bool.not_false]
            (first | (refine wpAnyH_take (i := 11) (v := _) (by simp only [gA, gB, gC]; rfl) (by kernel_rfl) (by kernel_rfl) (by kernel_rfl) (by exact fun _ _ _ h => h) (yields_at (by rfl) _ rfl _ rfl [.int .i64 tt.s, .int .i64 tt.c, .int .i64 tt.i, .int .i64 tt.k] (fun _ q => q.lab hl hti) Tryd.underlying25 rfl hsl) (by assumption) ?_) | (refine wpAnyH_take (i := 11) (v := undef) (by simp only [gA, gB, gC]; rfl) (by kernel_rfl) (by kernel_rfl) (by kernel_rfl) (by exact fun _ _ _ h => h) (Or.inr ⟨by rfl, rfl⟩) (by assumption) ?_) | fail); simp only [Act.put, sA, sB, sC, Bool.not_true, Bool.not_false]
            (first | (refine wpAnyH_take (i := 12) (v := ?_) (by simp only [gA, gB, gC]; rfl) (by kernel_rfl) (by kernel_rfl) (by kernel_rfl) (by exact fun _ _ _ h => h) (Or.inl ⟨by rfl, ?_⟩) (by assumption) ?_; rotate_left; (focus (intro w hSw; (try dsimp only at hSw); go_simp; try with_reducible rfl))) | (refine wpAnyH_take (i := 12) (v := undef) (by simp only [gA, gB, gC]; rfl) (by kernel_rfl) (by kernel_rfl) (by kernel_rfl) (by exact fun _ _ _ h => h) (Or.inr ⟨by rfl, rfl⟩) (by assumption) ?_) | fail); simp only [Act.put, sA, sB, sC, Bool.not_true, Bool.not_false]
            (first | (refine wpAnyH_take (i := 13) (v := ?_) (by simp only [gA, gB, gC]; rfl) (by kernel_rfl) (by kernel_rfl) (by kernel_rfl) (by exact fun _ _ _ h => h) (Or.inl ⟨by rfl, ?_⟩) (by assumption) ?_; rotate_left; (focus (intro w hSw; (try dsimp only at hSw); go_simp; try with_reducible rfl))) | (refine wpAnyH_take (i := 13) (v := undef) (by simp only [gA, gB, gC]; rfl) (by kernel_rfl) (by kernel_rfl) (by kernel_rfl) (by exact fun _ _ _ h => h) (Or.inr ⟨by rfl, rfl⟩) (by assumption) ?_) | fail); simp only [Act.put, sA, sB, sC, Bool.not_true, Bool.not_false]
            (first | (refine wpAnyH_take (i := 14) (v := ?_) (by simp only [gA, gB, gC]; rfl) (by kernel_rfl) (by kernel_rfl) (by kernel_rfl) (by exact fun _ _ _ h => h) (Or.inl ⟨by rfl, ?_⟩) (by assumption) ?_; rotate_left; (focus (intro w hSw; (try dsimp only at hSw); go_simp; try with_reducible rfl))) | (refine wpAnyH_take (i := 14) (v := undef) (by simp only [gA, gB, gC]; rfl) (by kernel_rfl) (by kernel_rfl) (by kernel_rfl) (by exact fun _ _ _ h => h) (Or.inr ⟨by rfl, rfl⟩) (by assumption) ?_) | fail); simp only [Act.put, sA, sB, sC, Bool.not_true, Bool.not_false]
            refine wpAnyH_done (by kernel_rfl) ?_ _
            go_wp2_with fail
            exact ⟨⟨j + 1, by omega, by simp, by rw [hat], hS0, hBd⟩, by simp [Go.RowKit.intOf]; omega⟩
        · obtain rfl : j = i := by omega
          cases hb : (ts.take j).any (fun t => labEq t tt)
          · replace hfs := hfs.out
            replace hds := hds.out
            rw [hb, if_neg (by decide)] at hfs hds
            rw [← hq.out] at hfs hds
            have hqn : Aside (q + 1 = (distTo ts (j + 1)).length) := hds.symm
            replace hfs : Aside _ := hfs
            clear hds hS ho hB
            have hS0 : FsZ w wr.drew (some y) n ct := hS2.then (Below.refl _ _).drew
            have ho0 : OwnN wr.drew (w.heap.size + 2) u4 (firstP ts j (some ⟨w.heap.size + 1, 0, none⟩)) := ho2
            have hwq : IntKind.i64.wrap (48 + (q : Int)) = ((48 + q : Nat) : Int) := by rw [IntKind.wrap_i64]; omega
            have hc2 : ¬ 9223372036854775807 < 2 + (chr (48 + q)).size := by show ¬ 9223372036854775807 < 2 + 1; decide
            have hwu2 : IntKind.u8.wrap (48 + (q : Int)) = ((48 + q : Nat) : Int) := by rw [IntKind.wrap_u8]; omega
            have hwu : IntKind.u8.wrap ((48 + q : Nat) : Int) = ((48 + q : Nat) : Int) := by rw [IntKind.wrap_u8]; omega
            clear hS2 ho2
            go_wp2_with fail
            refine wp_region_held_drew (S := (fun W => FsZ w W (some y) n ct)) (by kernel_rfl) (by exact hS0) ?_
            intro hHeld
            generalize wr.drew = w0 at *
            refine wpAnyH_take (i := 0) (v := ?_) (by simp only [gA, gB, gC]; rfl) (by kernel_rfl) (by kernel_rfl) (by kernel_rfl) (by exact fun _ _ _ h => h) (Or.inl ⟨by rfl, ?_⟩) (by assumption) ?_; rotate_left; (focus (intro w hSw; (try dsimp only at hSw); go_simp; try with_reducible rfl)); (try simp only [Act.put, sA, sB, sC])
            refine wpAnyH_take (i := 1) (v := ?_) (by simp only [gA, gB, gC]; rfl) (by kernel_rfl) (by kernel_rfl) (by kernel_rfl) (by exact fun _ _ _ h => h) (Or.inl ⟨by rfl, ?_⟩) (by assumption) ?_; rotate_left; (focus (intro w hSw; (try dsimp only at hSw); go_simp; try with_reducible rfl)); (try simp only [Act.put, sA, sB, sC])
            refine wpAnyH_take (i := 2) (v := ?_) (by simp only [gA, gB, gC]; rfl) (by kernel_rfl) (by kernel_rfl) (by kernel_rfl) (by exact fun _ _ _ h => h) (Or.inl ⟨by rfl, ?_⟩) (by assumption) ?_; rotate_left; (focus (intro w hSw; (try dsimp only at hSw); go_simp; try with_reducible rfl)); (try simp only [Act.put, sA, sB, sC])
            refine wpAnyH_take (i := 3) (v := ?_) (by simp only [gA, gB, gC]; rfl) (by kernel_rfl) (by kernel_rfl) (by kernel_rfl) (by exact fun _ _ _ h => h) (Or.inl ⟨by rfl, ?_⟩) (by assumption) ?_; rotate_left; (focus (intro w hSw; (try dsimp only at hSw); go_simp; try with_reducible rfl)); (try simp only [Act.put, sA, sB, sC])
            refine wpAnyH_take (i := 7) (v := ?_) (by simp only [gA, gB, gC]; rfl) (by kernel_rfl) (by kernel_rfl) (by kernel_rfl) (by exact fun _ _ _ h => h) (Or.inl ⟨by rfl, ?_⟩) (by assumption) ?_; rotate_left; (focus (intro w hSw; (try dsimp only at hSw); go_simp; try with_reducible rfl)); (try simp only [Act.put, sA, sB, sC])
            refine wpAnyH_take (i := 8) (v := _) (by simp only [gA, gB, gC]; rfl) (by kernel_rfl) (by kernel_rfl) (by kernel_rfl) (by exact fun _ _ _ h => h) (yields_cell (by rfl) _ rfl ⟨w.heap.size, 0, none⟩ rfl (.slice (some y) n ct) (fun _ q => q.box) slab_load) (by assumption) ?_; (try simp only [Act.put, sA, sB, sC])
            refine wpAnyH_take (i := 9) (v := ?_) (by simp only [gA, gB, gC]; rfl) (by kernel_rfl) (by kernel_rfl) (by kernel_rfl) (by exact fun _ _ _ h => h) (Or.inl ⟨by rfl, ?_⟩) (by assumption) ?_; rotate_left; (focus (intro w hSw; (try dsimp only at hSw); go_simp; try with_reducible rfl)); (try simp only [Act.put, sA, sB, sC])
            refine wpAnyH_take (i := 10) (v := ?_) (by simp only [gA, gB, gC]; rfl) (by kernel_rfl) (by kernel_rfl) (by kernel_rfl) (by exact fun _ _ _ h => h) (Or.inl ⟨by rfl, ?_⟩) (by assumption) ?_; rotate_left; (focus (intro w hSw; (try dsimp only at hSw); go_simp; try with_reducible rfl)); (try simp only [Act.put, sA, sB, sC])
            refine wpAnyH_take (i := 11) (v := _) (by simp only [gA, gB, gC]; rfl) (by kernel_rfl) (by kernel_rfl) (by kernel_rfl) (by exact fun _ _ _ h => h) (yields_at (by rfl) _ rfl _ rfl [.int .i64 tt.s, .int .i64 tt.c, .int .i64 tt.i, .int .i64 tt.k] (fun _ q => q.lab hl hti) Tryd.underlying25 rfl hsl) (by assumption) ?_; (try simp only [Act.put, sA, sB, sC])
            refine wpAnyH_take (i := 12) (v := ?_) (by simp only [gA, gB, gC]; rfl) (by kernel_rfl) (by kernel_rfl) (by kernel_rfl) (by exact fun _ _ _ h => h) (Or.inl ⟨by rfl, ?_⟩) (by assumption) ?_; rotate_left; (focus (intro w hSw; (try dsimp only at hSw); go_simp; try with_reducible rfl)); (try simp only [Act.put, sA, sB, sC])
            refine wpAnyH_ready (rs := [4, 13]) (by kernel_rfl) (by simp) ?_
            refine AllReadyH.cons (by simp only [gA, gB, gC]; rfl) (fun K hK => ?_) ?_
            · go_simp
              (try simp only [hwu2])
              refine hK.out _ _ (hS0.then (alloc_below _ _)) ?_
              clear hHeld hK
              intro hHeld
              have hbt := chr_made2 w0 q (by omega)
              have hS1 := hS0.then (alloc_below w0 (.cells #[.int .u8 (48 + (q : Int))] 5))
              have ho1 := ho0.below (alloc_below w0 (.cells #[.int .u8 (48 + (q : Int))] 5))
              generalize hwx : w0.alloc (.cells #[.int .u8 (48 + (q : Int))] 5) = w1 at *
              clear hwx
              generalize w0.heap.size = pb at *
              (try simp only [Act.put, sA, sB, sC])
              refine wpAnyH_ready (rs := [5, 13]) (by kernel_rfl) (by simp) ?_
              refine AllReadyH.cons (by simp only [gA, gB, gC]; rfl) (fun K hK => ?_) ?_
              · skip
                refine step_conv rfl _ rfl rfl hbt.conv ?_
                (try simp only [Act.put, sA, sB, sC])
                refine hK.out _ _ (hS1) ?_
                clear hHeld hK
                intro hHeld
                have hS2 := hS1
                have ho2 := ho1
                obtain ⟨w2, hww⟩ : ∃ w', w1 = w' := ⟨_, rfl⟩
                rw [hww] at hS2 ho2 hHeld ⊢
                clear hww
                (try simp only [Act.put, sA, sB, sC])
                refine wpAnyH_take (i := 6) (v := ?_) (by simp only [gA, gB, gC]; rfl) (by kernel_rfl) (by kernel_rfl) (by kernel_rfl) (by exact fun _ _ _ h => h) (Or.inl ⟨by rfl, ?_⟩) (by assumption) ?_; rotate_left; (focus (intro w hSw; (try dsimp only at hSw); go_simp; try with_reducible rfl)); (try simp only [Act.put, sA, sB, sC])
                refine wpAnyH_ready (rs := [13]) (by kernel_rfl) (by simp) ?_
                refine AllReadyH.cons (by simp only [gA, gB, gC]; rfl) (fun K hK => ?_) AllReadyH.nil
                go_simp
                go_at_call 26
                refine (rlbottom_any _).mono ?_
                rintro e w3 ⟨rfl, hB⟩
                have hS3 := hS2.then hB
                have ho3 := ho2.below hB
                refine hK.out _ _ (hS3) ?_
                clear hHeld hK
                intro hHeld
                (try simp only [Act.put, sA, sB, sC])
                refine wpAnyH_take (i := 14) (v := ?_) (by simp only [gA, gB, gC]; rfl) (by kernel_rfl) (by kernel_rfl) (by kernel_rfl) (by exact fun _ _ _ h => h) (Or.inl ⟨by rfl, ?_⟩) (by assumption) ?_; rotate_left; (focus (intro w hSw; (try dsimp only at hSw); go_simp; try with_reducible rfl)); (try simp only [Act.put, sA, sB, sC])
                refine wpAnyH_ready (rs := [15]) (by kernel_rfl) (by simp) ?_
                refine AllReadyH.cons (by simp only [gA, gB, gC]; rfl) (fun K hK => ?_) AllReadyH.nil
                refine step_build1 pn_ok (by decide) rfl _ rfl [.string (⟨#[47, 108]⟩ ++ chr (48 + q)), .bool true, .int .i64 tt.s, .int .i64 tt.c, .int .i64 tt.i, .int .i64 tt.k, .slice (some ⟨w.heap.size + 1, 0, none⟩) 1 1, .int .i64 0, .int .i64 0, .int .i64 0, .int .i64 0, .slice none 0 0, .int .i64 bottomL.s, .int .i64 bottomL.c, .int .i64 bottomL.i, .int .i64 bottomL.k] rfl rfl ?_
                (try simp only [Act.put, sA, sB, sC])
                refine hK.out _ _ (hS3.then (alloc_below _ _)) ?_
                clear hHeld hK
                intro hHeld
                obtain ⟨vz, wz, hap, hoz, hgz⟩ := OwnR.push pn_ok ho3 hS3.sz ⟨dirN q tt, some ⟨w.heap.size + 1, 0, none⟩, 1, none, 0⟩ [.string (⟨#[47, 108]⟩ ++ chr (48 + q)), .bool true, .int .i64 tt.s, .int .i64 tt.c, .int .i64 tt.i, .int .i64 tt.k, .slice (some ⟨w.heap.size + 1, 0, none⟩) 1 1, .int .i64 0, .int .i64 0, .int .i64 0, .int .i64 0, .slice none 0 0, .int .i64 bottomL.s, .int .i64 bottomL.c, .int .i64 bottomL.i, .int .i64 bottomL.k].toArray (by rw [dir_cs]) 36 (by rw [firstP_len]; have := hdl j; omega)
                have hbz := ho3.grew_below hS3.sz hgz
                have hSz := hS3.grown hbz
                rw [← hfs.out] at hoz
                (try simp only [Act.put, sA, sB, sC])
                refine wpAnyH_ready (rs := [16]) (by kernel_rfl) (by simp) ?_
                refine AllReadyH.cons (by simp only [gA, gB, gC]; rfl) (fun K hK => ?_) AllReadyH.nil
                refine step_append rfl _ _ rfl rfl rfl rfl hap ?_
                (try simp only [Act.put, sA, sB, sC])
                refine hK.out _ _ (hSz) ?_
                clear hHeld hK
                intro hHeld
                (try simp only [Act.put, sA, sB, sC])
                refine wpAnyH_take (i := 17) (v := ?_) (by simp only [gA, gB, gC]; rfl) (by kernel_rfl) (by kernel_rfl) (by kernel_rfl) (by exact fun _ _ _ h => h) (Or.inl ⟨by rfl, ?_⟩) (by assumption) ?_; rotate_left; (focus (intro w hSw; (try dsimp only at hSw); go_simp; try with_reducible rfl)); (try simp only [Act.put, sA, sB, sC])
                refine wpAnyH_done (by kernel_rfl) ?_ _
                go_wp2_with fail
                exact ⟨⟨j + 1, by omega, by simp, q + 1, by simp, hqn, hSz, hoz⟩, by simp [Go.RowKit.intOf]; omega⟩
              refine AllReadyH.cons (by simp only [gA, gB, gC]; rfl) (fun K hK => ?_) AllReadyH.nil
              go_simp
              go_at_call 26
              refine (rlbottom_any _).mono ?_
              rintro e w2 ⟨rfl, hB⟩
              have hS2 := hS1.then hB
              have ho2 := ho1.below hB
              have hbt := hbt.below hB
              refine hK.out _ _ (hS2) ?_
              clear hHeld hK
              intro hHeld
              (try simp only [Act.put, sA, sB, sC])
              refine wpAnyH_ready (rs := [5]) (by kernel_rfl) (by simp) ?_
              refine AllReadyH.cons (by simp only [gA, gB, gC]; rfl) (fun K hK => ?_) AllReadyH.nil
              refine step_conv rfl _ rfl rfl hbt.conv ?_
              (try simp only [Act.put, sA, sB, sC])
              refine hK.out _ _ (hS2) ?_
              clear hHeld hK
              intro hHeld
              have hS3 := hS2
              have ho3 := ho2
              obtain ⟨w3, hww⟩ : ∃ w', w2 = w' := ⟨_, rfl⟩
              rw [hww] at hS3 ho3 hHeld ⊢
              clear hww
              (try simp only [Act.put, sA, sB, sC])
              refine wpAnyH_take (i := 6) (v := ?_) (by simp only [gA, gB, gC]; rfl) (by kernel_rfl) (by kernel_rfl) (by kernel_rfl) (by exact fun _ _ _ h => h) (Or.inl ⟨by rfl, ?_⟩) (by assumption) ?_; rotate_left; (focus (intro w hSw; (try dsimp only at hSw); go_simp; try with_reducible rfl)); (try simp only [Act.put, sA, sB, sC])
              refine wpAnyH_take (i := 14) (v := ?_) (by simp only [gA, gB, gC]; rfl) (by kernel_rfl) (by kernel_rfl) (by kernel_rfl) (by exact fun _ _ _ h => h) (Or.inl ⟨by rfl, ?_⟩) (by assumption) ?_; rotate_left; (focus (intro w hSw; (try dsimp only at hSw); go_simp; try with_reducible rfl)); (try simp only [Act.put, sA, sB, sC])
              refine wpAnyH_ready (rs := [15]) (by kernel_rfl) (by simp) ?_
              refine AllReadyH.cons (by simp only [gA, gB, gC]; rfl) (fun K hK => ?_) AllReadyH.nil
              refine step_build1 pn_ok (by decide) rfl _ rfl [.string (⟨#[47, 108]⟩ ++ chr (48 + q)), .bool true, .int .i64 tt.s, .int .i64 tt.c, .int .i64 tt.i, .int .i64 tt.k, .slice (some ⟨w.heap.size + 1, 0, none⟩) 1 1, .int .i64 0, .int .i64 0, .int .i64 0, .int .i64 0, .slice none 0 0, .int .i64 bottomL.s, .int .i64 bottomL.c, .int .i64 bottomL.i, .int .i64 bottomL.k] rfl rfl ?_
              (try simp only [Act.put, sA, sB, sC])
              refine hK.out _ _ (hS3.then (alloc_below _ _)) ?_
              clear hHeld hK
              intro hHeld
              obtain ⟨vz, wz, hap, hoz, hgz⟩ := OwnR.push pn_ok ho3 hS3.sz ⟨dirN q tt, some ⟨w.heap.size + 1, 0, none⟩, 1, none, 0⟩ [.string (⟨#[47, 108]⟩ ++ chr (48 + q)), .bool true, .int .i64 tt.s, .int .i64 tt.c, .int .i64 tt.i, .int .i64 tt.k, .slice (some ⟨w.heap.size + 1, 0, none⟩) 1 1, .int .i64 0, .int .i64 0, .int .i64 0, .int .i64 0, .slice none 0 0, .int .i64 bottomL.s, .int .i64 bottomL.c, .int .i64 bottomL.i, .int .i64 bottomL.k].toArray (by rw [dir_cs]) 36 (by rw [firstP_len]; have := hdl j; omega)
              have hbz := ho3.grew_below hS3.sz hgz
              have hSz := hS3.grown hbz
              rw [← hfs.out] at hoz
              (try simp only [Act.put, sA, sB, sC])
              refine wpAnyH_ready (rs := [16]) (by kernel_rfl) (by simp) ?_
              refine AllReadyH.cons (by simp only [gA, gB, gC]; rfl) (fun K hK => ?_) AllReadyH.nil
              refine step_append rfl _ _ rfl rfl rfl rfl hap ?_
              (try simp only [Act.put, sA, sB, sC])
              refine hK.out _ _ (hSz) ?_
              clear hHeld hK
              intro hHeld
              (try simp only [Act.put, sA, sB, sC])
              refine wpAnyH_take (i := 17) (v := ?_) (by simp only [gA, gB, gC]; rfl) (by kernel_rfl) (by kernel_rfl) (by kernel_rfl) (by exact fun _ _ _ h => h) (Or.inl ⟨by rfl, ?_⟩) (by assumption) ?_; rotate_left; (focus (intro w hSw; (try dsimp only at hSw); go_simp; try with_reducible rfl)); (try simp only [Act.put, sA, sB, sC])
              refine wpAnyH_done (by kernel_rfl) ?_ _
              go_wp2_with fail
              exact ⟨⟨j + 1, by omega, by simp, q + 1, by simp, hqn, hSz, hoz⟩, by simp [Go.RowKit.intOf]; omega⟩
            refine AllReadyH.cons (by simp only [gA, gB, gC]; rfl) (fun K hK => ?_) AllReadyH.nil
            go_simp
            go_at_call 26
            refine (rlbottom_any _).mono ?_
            rintro e w1 ⟨rfl, hB⟩
            have hS1 := hS0.then hB
            have ho1 := ho0.below hB
            refine hK.out _ _ (hS1) ?_
            clear hHeld hK
            intro hHeld
            (try simp only [Act.put, sA, sB, sC])
            refine wpAnyH_ready (rs := [4]) (by kernel_rfl) (by simp) ?_
            refine AllReadyH.cons (by simp only [gA, gB, gC]; rfl) (fun K hK => ?_) AllReadyH.nil
            go_simp
            (try simp only [hwu2])
            refine hK.out _ _ (hS1.then (alloc_below _ _)) ?_
            clear hHeld hK
            intro hHeld
            have hbt := chr_made2 w1 q (by omega)
            have hS2 := hS1.then (alloc_below w1 (.cells #[.int .u8 (48 + (q : Int))] 5))
            have ho2 := ho1.below (alloc_below w1 (.cells #[.int .u8 (48 + (q : Int))] 5))
            generalize hwx : w1.alloc (.cells #[.int .u8 (48 + (q : Int))] 5) = w2 at *
            clear hwx
            generalize w1.heap.size = pb at *
            (try simp only [Act.put, sA, sB, sC])
            refine wpAnyH_ready (rs := [5]) (by kernel_rfl) (by simp) ?_
            refine AllReadyH.cons (by simp only [gA, gB, gC]; rfl) (fun K hK => ?_) AllReadyH.nil
            refine step_conv rfl _ rfl rfl hbt.conv ?_
            (try simp only [Act.put, sA, sB, sC])
            refine hK.out _ _ (hS2) ?_
            clear hHeld hK
            intro hHeld
            have hS3 := hS2
            have ho3 := ho2
            obtain ⟨w3, hww⟩ : ∃ w', w2 = w' := ⟨_, rfl⟩
            rw [hww] at hS3 ho3 hHeld ⊢
            clear hww
            (try simp only [Act.put, sA, sB, sC])
            refine wpAnyH_take (i := 6) (v := ?_) (by simp only [gA, gB, gC]; rfl) (by kernel_rfl) (by kernel_rfl) (by kernel_rfl) (by exact fun _ _ _ h => h) (Or.inl ⟨by rfl, ?_⟩) (by assumption) ?_; rotate_left; (focus (intro w hSw; (try dsimp only at hSw); go_simp; try with_reducible rfl)); (try simp only [Act.put, sA, sB, sC])
            refine wpAnyH_take (i := 14) (v := ?_) (by simp only [gA, gB, gC]; rfl) (by kernel_rfl) (by kernel_rfl) (by kernel_rfl) (by exact fun _ _ _ h => h) (Or.inl ⟨by rfl, ?_⟩) (by assumption) ?_; rotate_left; (focus (intro w hSw; (try dsimp only at hSw); go_simp; try with_reducible rfl)); (try simp only [Act.put, sA, sB, sC])
            refine wpAnyH_ready (rs := [15]) (by kernel_rfl) (by simp) ?_
            refine AllReadyH.cons (by simp only [gA, gB, gC]; rfl) (fun K hK => ?_) AllReadyH.nil
            refine step_build1 pn_ok (by decide) rfl _ rfl [.string (⟨#[47, 108]⟩ ++ chr (48 + q)), .bool true, .int .i64 tt.s, .int .i64 tt.c, .int .i64 tt.i, .int .i64 tt.k, .slice (some ⟨w.heap.size + 1, 0, none⟩) 1 1, .int .i64 0, .int .i64 0, .int .i64 0, .int .i64 0, .slice none 0 0, .int .i64 bottomL.s, .int .i64 bottomL.c, .int .i64 bottomL.i, .int .i64 bottomL.k] rfl rfl ?_
            (try simp only [Act.put, sA, sB, sC])
            refine hK.out _ _ (hS3.then (alloc_below _ _)) ?_
            clear hHeld hK
            intro hHeld
            obtain ⟨vz, wz, hap, hoz, hgz⟩ := OwnR.push pn_ok ho3 hS3.sz ⟨dirN q tt, some ⟨w.heap.size + 1, 0, none⟩, 1, none, 0⟩ [.string (⟨#[47, 108]⟩ ++ chr (48 + q)), .bool true, .int .i64 tt.s, .int .i64 tt.c, .int .i64 tt.i, .int .i64 tt.k, .slice (some ⟨w.heap.size + 1, 0, none⟩) 1 1, .int .i64 0, .int .i64 0, .int .i64 0, .int .i64 0, .slice none 0 0, .int .i64 bottomL.s, .int .i64 bottomL.c, .int .i64 bottomL.i, .int .i64 bottomL.k].toArray (by rw [dir_cs]) 36 (by rw [firstP_len]; have := hdl j; omega)
            have hbz := ho3.grew_below hS3.sz hgz
            have hSz := hS3.grown hbz
            rw [← hfs.out] at hoz
            (try simp only [Act.put, sA, sB, sC])
            refine wpAnyH_ready (rs := [16]) (by kernel_rfl) (by simp) ?_
            refine AllReadyH.cons (by simp only [gA, gB, gC]; rfl) (fun K hK => ?_) AllReadyH.nil
            refine step_append rfl _ _ rfl rfl rfl rfl hap ?_
            (try simp only [Act.put, sA, sB, sC])
            refine hK.out _ _ (hSz) ?_
            clear hHeld hK
            intro hHeld
            (try simp only [Act.put, sA, sB, sC])
            refine wpAnyH_take (i := 17) (v := ?_) (by simp only [gA, gB, gC]; rfl) (by kernel_rfl) (by kernel_rfl) (by kernel_rfl) (by exact fun _ _ _ h => h) (Or.inl ⟨by rfl, ?_⟩) (by assumption) ?_; rotate_left; (focus (intro w hSw; (try dsimp only at hSw); go_simp; try with_reducible rfl)); (try simp only [Act.put, sA, sB, sC])
            refine wpAnyH_done (by kernel_rfl) ?_ _
            go_wp2_with fail
            exact ⟨⟨j + 1, by omega, by simp, q + 1, by simp, hqn, hSz, hoz⟩, by simp [Go.RowKit.intOf]; omega⟩
          · replace hfs := hfs.out
            replace hds := hds.out
            rw [hb, if_pos rfl] at hfs hds
            have hqn : Aside (q = (distTo ts (j + 1)).length) := by rw [hq.out]; exact hds.symm
            rw [← hfs] at ho2
            clear hfs hds
            go_wp2_with fail
            exact ⟨⟨j + 1, by omega, by simp, q, rfl, hqn, hS2, ho2⟩, by simp [Go.RowKit.intOf]; omega⟩
    · obtain rfl : i = n := by omega
      go_wp2_with fail
      go_ret
      exact ⟨_, rfl, ho.lower (by omega), hS.all, hS.bl⟩
end Go.Proofs.YtapgjdmnlkedgaaDoor

/-! THE LAWS' SMALL FUNCTIONS (chapter 13): within, Who, known. -/
namespace Go.Proofs.YtapgjdmnlkedgaaDoor
open Go.RowKit
set_option maxRecDepth 8000
set_option linter.unusedSimpArgs false
set_option linter.unusedVariables false

set_option maxHeartbeats 400000 in
theorem w13_any (k m : Int) (h0 : 0 < m) (h1 : m < 1000000) (w : World) :
    Calls Tryd.prog 12 #[.int .i64 k, .int .i64 m] w fun e w' => e = .returned (.int .i64 (k % m)) ∧ w' = w := by
  have b1 := Int.lt_tmod_of_pos k h0
  have b2 := Int.tmod_lt_of_pos k h0
  have hm0 : ¬ m = 0 := by omega
  have hm1 : ¬ m = -1 := by omega
  by_cases hn : k.tmod m < 0
  · have e1 : k % m = k.tmod m + m := by
      rw [Int.tmod_eq_emod] at hn ⊢
      split at hn
      · have := Int.emod_nonneg k (by omega : m ≠ 0); omega
      · rename_i hc; rw [if_neg hc]; rw [Int.natAbs_of_nonneg (by omega)]; omega
    rw [e1]
    clear e1
    go_enter Tryd.func12, Tryd.ntmps12
    go_wp2
    go_ret
    exact ⟨rfl, rfl⟩
  · have e1 : k % m = k.tmod m := by
      rw [Int.tmod_eq_emod] at hn ⊢
      split
      · simp
      · rename_i hc
        rw [if_neg hc] at hn
        have := Int.emod_lt_of_pos k h0
        rw [Int.natAbs_of_nonneg (by omega)] at *
        omega
    rw [e1]
    clear e1
    go_enter Tryd.func12, Tryd.ntmps12
    go_wp2
    go_ret
    exact ⟨rfl, rfl⟩
def whoS (k : Int) : ByteArray := chr (97 + (k % 5).toNat)
set_option maxHeartbeats 1000000 in
theorem who_any (k : Int) (w : World) : Calls Tryd.prog 14 #[.int .i64 k] w fun e w' => e = .returned (.string (whoS k)) ∧ Below w.heap.size w w' := by
  obtain ⟨n, hn, hn5⟩ : ∃ n : Nat, k % 5 = (n : Int) ∧ n < 5 := ⟨(k % 5).toNat, by omega, by omega⟩
  have kw := w13_any k 5 (by decide) (by decide) w
  rw [hn] at kw
  have hwho : whoS k = chr (97 + n) := by unfold whoS; rw [hn]; rfl
  rw [hwho]
  have hbt := chr_made w (97 + n) (by omega)
  rw [show ((97 + n : Nat) : Int) = 97 + (n : Int) by omega] at hbt
  have hcv := hbt.conv
  have e1 : IntKind.u8.wrap (97 + (n : Int)) = 97 + (n : Int) := by rw [IntKind.wrap_u8]; omega
  have hB := alloc_below w (.cells #[.int .u8 (97 + (n : Int))] 5)
  clear hn hwho hbt
  go_enter Tryd.func14, Tryd.ntmps14
  go_wp2_with fail
  refine kw.mono ?_
  rintro e w' ⟨rfl, hw'⟩
  replace hw' := hw'.symm
  subst hw'
  go_wp2_with fail
  go_ret
  exact ⟨rfl, hB⟩
/-! The chapter's example. -/
def knL : Lab := ⟨1, 0, 3, 255⟩
theorem kn_GL : GL knL := by constructor <;> decide
theorem kn_tree : Tree (firstN [knL]) := first_tree (fun t ht => by rw [List.mem_singleton] at ht; rw [ht]; exact kn_GL) (by decide)
theorem kn_see : seeE (firstN [knL]) bottomL ⟨#[47, 108, 48, 47, 120]⟩ = 15 := by decide +kernel
theorem kn_may : mayE (firstN [knL]) ⟨#[97]⟩ bottomL ⟨#[47, 108, 48]⟩ 1 = 15 := by decide +kernel
theorem kn_see2 : seeE (firstN [knL]) bottomL ⟨#[47, 108, 48]⟩ = 0 := by decide +kernel
theorem kn_told : (toldN (firstN [knL]) ⟨#[47, 108, 48]⟩ 0).path = ⟨#[47, 108, 48]⟩ := by decide +kernel
theorem rlbotM_any (w : World) :
    Calls Tryd.prog 26 #[] w fun e w' => e = .returned bottomL.v ∧ Below w.heap.size w w' := by
  go_enter Tryd.func26, Tryd.ntmps26
  go_wp2
  refine bodyPost_ret (v := bottomL.v) (by simp [results, Tryd.results26, go_sem, bottomL]) rfl ⟨rfl, (Below.refl _ _).alloc (Nat.le_refl _) _⟩
set_option maxRecDepth 20000 in
set_option maxHeartbeats 4000000 in
theorem mknown_any (K : MonOk) (w : World) (hV : MaxV w) : Calls Tryd.prog 9 #[] w fun e w' => e = .returned (.bool true) ∧ Below w.heap.size w w' := by
  have hund := Tryd.underlying36
  have hundM := Tryd.underlying47
  have hszN : (Tryd.prog.info? 36).map (·.size) = some 16 := by kernel_rfl
  have hsm : (Tryd.prog.info? 47).map (·.size) = some 5 := by kernel_rfl
  have hrow := row_made lab_ok.len w knL #[.int .i64 1, .int .i64 0, .int .i64 3, .int .i64 255] rfl 25
  have hB0 := alloc_below w (.cells #[.int .i64 1, .int .i64 0, .int .i64 3, .int .i64 255] 25)
  have kf := rfirstT_any (some ⟨w.heap.size, 0, none⟩) 1 [knL] none none 0 0 0 0 (by decide) _ hrow
  obtain ⟨W0, hW0⟩ : ∃ W0, w.alloc (.cells #[.int .i64 1, .int .i64 0, .int .i64 3, .int .i64 255] 25) = W0 := ⟨_, rfl⟩
  rw [hW0] at kf hB0
  replace kf : Calls Tryd.prog 25 #[.agg #[.slice (some ⟨w.heap.size, 0, none⟩) 1 1, .slice none 0 0, .slice none 0 0]] W0 _ := kf
  clear hrow
  go_enter Tryd.func9, Tryd.ntmps9
  go_wp2_with fail
  refine kf.mono ?_
  rintro e W1 ⟨v, rfl, ho, hg, hB1⟩
  obtain ⟨ag, hag⟩ : ∃ ag, (some ⟨W0.heap.size + 1, 0, none⟩ : Option Addr) = ag := ⟨_, rfl⟩
  rw [hag] at ho hg
  obtain ⟨L, hL⟩ : ∃ L, firstP [knL] 1 ag = L := ⟨_, rfl⟩
  have hLn : namesP L = firstN [knL] := by rw [← hL, firstP_names]; rfl
  have hLl : L.length = 2 := by rw [← hL, firstP_len]; decide +kernel
  have hLa : ∀ {W : World}, Below W1.heap.size W1 W → ∀ x ∈ L, x.At W := fun {W} hb x hx => by
    rw [← hL] at hx
    obtain ⟨d, hd, rfl⟩ := List.mem_map.1 hx
    have hda : d.acl = allG ∧ d.words = [] := by
      rcases first_mem hd with rfl | ⟨k, t, _, _, rfl⟩
      · exact ⟨rfl, rfl⟩
      · exact ⟨rfl, rfl⟩
    refine ⟨?_, ?_⟩
    · show GrsAt W ag d.acl
      rw [hda.1]
      exact hg.below hb
    · show WrdsAt W none d.words
      rw [hda.2]
      exact fun j q hq => by simp at hq
  replace ho : OwnN W1 W0.heap.size v L := by rw [← hL]; exact ho
  obtain ⟨a, c, rfl, _, _, hr⟩ := OwnR.slice pn_len ho
  rw [hLl]
  have hF : FineL L := ⟨by rw [hLl]; decide, by rw [hLn]; exact kn_tree.ord, fun x hx => kn_tree.ok x.n (by rw [← hLn]; exact List.mem_map.2 ⟨x, hx, rfl⟩)⟩
  have hR : ∀ {W : World}, Below W1.heap.size W1 W → RowN W a L := fun {W} hb => ⟨hr.below pn_len hb, hLa hb⟩
  have hB01 := Below.then hB0 hB1
  clear kf ho hg hL hag hB0 hB1 hLa hr hW0
  go_wp2_with fail
  refine (rlbotM_any W1).mono ?_
  rintro e W2 ⟨rfl, hB2⟩
  have hbs := blkl_alloc W2 #[.string ⟨#[97]⟩, .int .i64 bottomL.s, .int .i64 bottomL.c, .int .i64 bottomL.i, .int .i64 bottomL.k] 47
  have hB3 := alloc_below W2 (.cells #[.string ⟨#[97]⟩, .int .i64 bottomL.s, .int .i64 bottomL.c, .int .i64 bottomL.i, .int .i64 bottomL.k] 47)
  obtain ⟨W3, hW3⟩ : ∃ W3, W2.alloc (.cells #[.string ⟨#[97]⟩, .int .i64 bottomL.s, .int .i64 bottomL.c, .int .i64 bottomL.i, .int .i64 bottomL.k] 47) = W3 := ⟨_, rfl⟩
  rw [hW3] at hbs hB3
  replace hbs : BlkL W2.heap.size (sbL ⟨#[97]⟩ bottomL) W3 := hbs
  have hB13 := Below.then hB2 hB3
  have hBw3 := Below.then hB01 hB13
  have hrs := hbs.range
  have k1 := K.see a c L ⟨#[97]⟩ bottomL ⟨#[47, 108, 48, 47, 120]⟩ hF bottom_GL (by decide) W3 (hR hB13) (hV.below hBw3)
  rw [hLn, kn_see, hLl] at k1
  go_upto_region 3 with fail
  (try rw [hW3])
  generalize W2.heap.size = bs at *
  go_wp2_with (first | (refine wpList_load_row rfl _ rfl bs rfl (sbL ⟨#[97]⟩ bottomL) hrs hundM rfl hsm ?_) | fail)
  refine k1.mono ?_
  rintro e W4 ⟨f1, rfl, -, -, hB4⟩
  obtain ⟨U1, hU1, hth1, hbk1, hC1⟩ := put_new W4 zN 36 f1.cs (by rw [pn_len]; rfl) (by rw [pn_len]; omega)
  have hsz1 : (Tryd.prog.info? 36).map (·.size) = some f1.cs.length := by rw [pn_len]; exact hszN
  have hD1 := Below.then hB4 hC1
  have hBa := Below.then hB13 hD1
  have hBwa := Below.then hBw3 hD1
  have hbs1 := stab_blk _ _ _ _ hbs hD1
  have hrs1 := hbs1.range
  have k2 := K.may a c L ⟨#[97]⟩ bottomL ⟨#[47, 108, 48]⟩ 1 hF bottom_GL (by decide) U1 (hR hBa) (hV.below hBwa)
  rw [hLn, kn_may, hLl] at k2
  clear k1 hrs hbs hB4 hC1 hbk1
  go_wp2_with (first | (refine wpList_store_row rfl _ _ rfl W4.heap.size rfl f1.cs rfl hth1 hsz1 (pn_one f1) hU1 ?_) | (refine wpList_load_row rfl _ rfl bs rfl (sbL ⟨#[97]⟩ bottomL) hrs1 hundM rfl hsm ?_) | fail)
  refine k2.mono ?_
  rintro e W5 ⟨f2, rfl, -, -, hB5⟩
  obtain ⟨U2, hU2, hth2, hbk2, hC2⟩ := put_new W5 zN 36 f2.cs (by rw [pn_len]; rfl) (by rw [pn_len]; omega)
  have hsz2 : (Tryd.prog.info? 36).map (·.size) = some f2.cs.length := by rw [pn_len]; exact hszN
  have hD2 := Below.then hB5 hC2
  have hBb := Below.then hBa hD2
  have hBwb := Below.then hBwa hD2
  have hbs2 := stab_blk _ _ _ _ hbs1 hD2
  have hrs2 := hbs2.range
  have k3 := K.see a c L ⟨#[97]⟩ bottomL ⟨#[47, 108, 48]⟩ hF bottom_GL (by decide) U2 (hR hBb) (hV.below hBwb)
  rw [hLn, kn_see2, hLl] at k3
  clear k2 hrs1 hbs1 hB5 hC2 hbk2 hth1 hU1
  go_wp2_with (first | (refine wpList_store_row rfl _ _ rfl W5.heap.size rfl f2.cs rfl hth2 hsz2 (pn_one f2) hU2 ?_) | (refine wpList_load_row rfl _ rfl bs rfl (sbL ⟨#[97]⟩ bottomL) hrs2 hundM rfl hsm ?_) | fail)
  refine k3.mono ?_
  rintro e W6 ⟨f3, rfl, hf3, -, hB6⟩
  obtain ⟨U3, hU3, hth3, hbk3, hC3⟩ := put_new W6 zN 36 f3.cs (by rw [pn_len]; rfl) (by rw [pn_len]; omega)
  have hsz3 : (Tryd.prog.info? 36).map (·.size) = some f3.cs.length := by rw [pn_len]; exact hszN
  have hfin := Below.then hBwb (Below.then hB6 hC3)
  have hz0 := (hbk3.1 0 _ rfl).1
  rw [show f3.n.path = ⟨#[47, 108, 48]⟩ from by rw [hf3]; exact kn_told] at hz0
  clear k3 hrs2 hbs2 hB6 hC3 hbk3 hth2 hU2 hf3
  go_wp2_with (first | (refine wpList_store_row rfl _ _ rfl W6.heap.size rfl f3.cs rfl hth3 hsz3 (pn_one f3) hU3 ?_) | fail)
  go_ret
  exact ⟨rfl, hfin⟩
end Go.Proofs.YtapgjdmnlkedgaaDoor

/-! ARGUMENTS OPENED, FOR WHATEVER TYPES: a struct's fields, a row of elements, each read by a reader of its own. -/
namespace Go.Proofs.YtapgjdmnlkedgaaDoor
open Go.ChangeShapes Go.WideShapes Go.ChangeAt Go.RowKit
set_option maxRecDepth 8000
set_option linter.unusedVariables false
set_option linter.unusedSimpArgs false

theorem own : ownKnob Tryd.prog.godebug = none := by kernel_rfl
theorem laidOut : laidOutB Tryd.prog = true := by kernel_rfl
theorem int_fits {n : Int} (h : (Lit.int .i64 n).wf = true) : -9223372036854775808 ≤ n ∧ n ≤ 9223372036854775807 := by
  simpa [Lit.wf, IntKind.min, IntKind.max, IntKind.bits, IntKind.signed] using h
theorem nat_u64 {n : Int} (h : (Lit.int .u64 n).wf = true) : ∃ k : Nat, n = (k : Int) ∧ k < 18446744073709551616 := by
  have : 0 ≤ n ∧ n ≤ 18446744073709551615 := by simpa [Lit.wf, IntKind.min, IntKind.max, IntKind.bits, IntKind.signed] using h
  exact ⟨n.toNat, by omega, by omega⟩
theorem nat_u8 {n : Int} (h : (Lit.int .u8 n).wf = true) : ∃ k : Nat, n = (k : Int) ∧ k < 256 := by
  have : 0 ≤ n ∧ n ≤ 255 := by simpa [Lit.wf, IntKind.min, IntKind.max, IntKind.bits, IntKind.signed] using h
  exact ⟨n.toNat, by omega, by omega⟩
section
variable {H : Type} {enc : TypeId × Value → H} {W : World} {base : Nat} {sp : Nat → Bool} {held : Bool}
/-- What a reading of a type tells of its cells. -/
def Reads (enc : TypeId × Value → H) (W : World) (base : Nat) (sp : Nat → Bool) (held : Bool) (t : TypeId) (p : List Value → Prop) : Prop := ∀ (n : Nat) (cs : List Value) (x : DataW H × List MemPlace), DataW.trod enc Tryd.prog W base sp held n t cs = some x → p cs
theorem reads_int {t : TypeId} {k : IntKind} (ht : Tryd.prog.underlying t = some (.int k)) : Reads enc W base sp held t fun cs => ∃ n, cs = [.int k n] ∧ (Lit.int k n).wf = true := fun n cs x h => by
  obtain ⟨m, rfl, _, hw⟩ := DataW.trod_int ht h
  exact ⟨m, rfl, hw⟩
theorem reads_bool {t : TypeId} (ht : Tryd.prog.underlying t = some .bool) : Reads enc W base sp held t fun cs => ∃ b, cs = [.bool b] := fun n cs x h => by
  obtain ⟨b, rfl, _⟩ := DataW.trod_bool ht h
  exact ⟨b, rfl⟩
theorem reads_string {t : TypeId} (ht : Tryd.prog.underlying t = some .string) : Reads enc W base sp held t fun cs => ∃ s : ByteArray, cs = [.string s] ∧ s.size ≤ 9223372036854775807 := fun n cs x h => by
  obtain ⟨s, rfl, _, hs⟩ := DataW.trod_string ht h
  exact ⟨s, rfl, by simpa [maxLen] using hs⟩
/-- A field of a struct. -/
theorem read_field {t ty : TypeId} {i off sz : Nat} {p : List Value → Prop} (ht : Tryd.prog.underlying t = some (.struct (Tryd.prog.fieldsOf t))) (hf : ((Tryd.prog.fieldsOf t)[i]?).map (fun f => (f.type, f.offset)) = some (ty, off)) (hc : Tryd.prog.cellsOf ty = sz) (hp : Reads enc W base sp held ty p) {n : Nat} {cs : List Value} {x : DataW H × List MemPlace} (h : DataW.trod enc Tryd.prog W base sp held n t cs = some x) : p ((cs.drop off).take sz) := by
  obtain ⟨xs, m, _, _, _, hlen, hg⟩ := DataW.trod_struct ht h
  cases hfi : (Tryd.prog.fieldsOf t)[i]? with
  | none => rw [hfi] at hf; cases hf
  | some f =>
    rw [hfi] at hf
    have e : (f.type, f.offset) = (ty, off) := by simpa using hf
    have e1 : f.type = ty := congrArg Prod.fst e
    have e2 : f.offset = off := congrArg Prod.snd e
    have hh := hg i f hfi
    have hi : i < xs.length := by
      have := (Array.getElem?_eq_some_iff.1 hfi).1
      omega
    rw [List.getElem?_eq_getElem hi, e1, e2, hc] at hh
    exact hp _ _ _ hh
theorem struct_len {t : TypeId} {sz : Nat} (ht : Tryd.prog.underlying t = some (.struct (Tryd.prog.fieldsOf t))) (hc : Tryd.prog.cellsOf t = sz) {n : Nat} {cs : List Value} {x : DataW H × List MemPlace} (h : DataW.trod enc Tryd.prog W base sp held n t cs = some x) : cs.length = sz := by
  obtain ⟨xs, m, _, _, hl, _⟩ := DataW.trod_struct ht h
  rw [hl, hc]
theorem pick_all {α : Type} {len : Nat} {p : Nat → α → Prop} (h : ∀ i, i < len → ∃ g, p i g) : ∃ l : List α, l.length = len ∧ ∀ j g, l[j]? = some g → p j g := by
  by_cases h0 : len = 0
  · subst h0
    exact ⟨[], rfl, fun j g q => by cases q⟩
  haveI : Inhabited α := ⟨(h 0 (by omega)).choose⟩
  have h' : ∀ i, ∃ g, i < len → p i g := fun i => by
    by_cases hi : i < len
    · obtain ⟨g, hg⟩ := h i hi; exact ⟨g, fun _ => hg⟩
    · exact ⟨default, fun k => absurd k hi⟩
  obtain ⟨f, hf⟩ := Classical.axiomOfChoice h'
  refine ⟨(List.range len).map f, by simp, fun j g hg => ?_⟩
  have hj : j < len := by
    have := (List.getElem?_eq_some_iff.1 hg).1
    simpa using this
  simp [List.getElem?_range hj] at hg
  subst hg
  exact hf j hj
/-- A row of elements. -/
theorem open_rows {α : Type} {t e : TypeId} {sz : Nat} {f : α → List Value} {q : α → Prop} (ht : Tryd.prog.underlying t = some (.slice e)) (hc : Tryd.prog.cellsOf e = sz) (hp : Reads enc W 0 (fun _ => true) true e fun cs => ∃ g, cs = f g ∧ q g) {n : Nat} {a : Option Addr} {len cap : Nat} {x : DataW H × List MemPlace} (h : DataW.trod enc Tryd.prog W 0 (fun _ => true) true n t [.slice a len cap] = some x) :
    ∃ l : List α, l.length = len ∧ (∀ j g, l[j]? = some g → ∃ y, a = some y ∧ (∀ i, i < sz → W.cell? (y.add (j * sz + i)) = (f g)[i]?)) ∧ (∀ g ∈ l, q g) ∧ (a = none → cap = 0) ∧ len ≤ cap ∧ cap ≤ 9223372036854775807 := by
  rcases Go.Deep.open_slice ht h with ⟨hcs, _⟩ | ⟨ad, l, c, m, n', Dd, Pl, hcs, _, hl, hm, hmm, _, hx⟩
  · simp at hcs
    obtain ⟨rfl, rfl, rfl⟩ := hcs
    exact ⟨[], rfl, fun j g hg => by simp at hg, by simp, fun _ => rfl, Nat.le_refl _, by omega⟩
  · simp at hcs
    obtain ⟨rfl, rfl, rfl⟩ := hcs
    simp only [if_true] at hmm
    have each : ∀ i, i < len → ∃ g : α, (∀ k, k < sz → W.cell? (ad.add (i * sz + k)) = (f g)[k]?) ∧ q g := fun i hi => by
      obtain ⟨cs', h2, h3⟩ := hx i (by omega)
      rw [hc] at h2
      obtain ⟨_, hlen, hcell⟩ := World.cells?_some h2
      obtain ⟨g, rfl, hq⟩ := hp _ _ _ h3
      refine ⟨g, fun k hk => ?_, hq⟩
      have e0 := hcell k (by omega)
      rw [Go.Deep.add_add] at e0
      rw [e0]
    obtain ⟨L, hL, hpp⟩ := pick_all each
    refine ⟨L, hL, fun j g hg => ⟨ad, rfl, (hpp j g hg).1⟩, fun g hg => ?_, fun h => (by cases h), hl, by simpa [maxLen] using hm⟩
    obtain ⟨j, hj, rfl⟩ := List.getElem_of_mem hg
    exact (hpp j L[j] (List.getElem?_eq_getElem hj)).2
end
end Go.Proofs.YtapgjdmnlkedgaaDoor

/-! STRUCTS THAT CAME IN, WHATEVER THEIR NUMBER OF CELLS; labels. For every stage from the tenth on. -/
namespace Go.Proofs.YtapgjdmnlkedgaaDoor
open Go.ChangeShapes Go.WideShapes Go.ChangeAt Go.RowKit
set_option maxRecDepth 8000
set_option linter.unusedVariables false
set_option linter.unusedSimpArgs false

def lcells (l : Lab) : List Value := [.int .i64 l.s, .int .i64 l.c, .int .i64 l.i, .int .i64 l.k]
def fitsI (n : Int) : Prop := -9223372036854775808 ≤ n ∧ n ≤ 9223372036854775807
def Lab.fits (l : Lab) : Prop := fitsI l.s ∧ fitsI l.c ∧ fitsI l.i ∧ fitsI l.k
theorem cInt : Tryd.prog.cellsOf 3 = 1 := by kernel_rfl
theorem cStr : Tryd.prog.cellsOf 9 = 1 := by kernel_rfl
theorem cBool : Tryd.prog.cellsOf 4 = 1 := by kernel_rfl
theorem cLab : Tryd.prog.cellsOf 25 = 4 := by kernel_rfl
/-- A struct as a parameter: its cells, and how they read. -/
theorem open_struct {H : Type} {enc : TypeId × Value → H} {W : World} {r : Reach} {b0 base : Nat} {sp : Nat → Bool} {held : Bool} {t : TypeId} {fs : Array Field} {v : Value} {d : DataW H} {p : List MemPlace} {q : List Value → Prop} (hs : Tryd.prog.underlying t = some (.struct fs)) (hq : Reads enc W base sp held t q)
    (hv : Value.okWide Tryd.prog W r b0 t v) (h : DataW.Trod enc Tryd.prog W base sp held t v d p) : ∃ cs : List Value, v = .agg cs.toArray ∧ q cs := by
  obtain ⟨cs, rfl, hsz⟩ := okWide_struct hs hv
  obtain ⟨fuel, hf⟩ := h
  exact ⟨cs.toList, by simp, hq fuel cs.toList (d, p) hf⟩
section
variable {H : Type} {enc : TypeId × Value → H} {W : World} {base : Nat} {sp : Nat → Bool} {held : Bool}
theorem reads_lab : Reads enc W base sp held 25 fun cs => ∃ l, cs = lcells l ∧ l.fits := fun n cs x h => by
  have hl := struct_len und cLab h
  obtain ⟨s, e0, w0⟩ := read_field (i := 0) (ty := 3) (off := 0) und (by kernel_rfl) cInt (reads_int Tryd.underlying3) h
  obtain ⟨c, e1, w1⟩ := read_field (i := 1) (ty := 3) (off := 1) und (by kernel_rfl) cInt (reads_int Tryd.underlying3) h
  obtain ⟨i, e2, w2⟩ := read_field (i := 2) (ty := 3) (off := 2) und (by kernel_rfl) cInt (reads_int Tryd.underlying3) h
  obtain ⟨k, e3, w3⟩ := read_field (i := 3) (ty := 3) (off := 3) und (by kernel_rfl) cInt (reads_int Tryd.underlying3) h
  match cs, hl with
  | [v0, v1, v2, v3], _ =>
    simp at e0 e1 e2 e3
    subst e0 e1 e2 e3
    exact ⟨⟨s, c, i, k⟩, rfl, int_fits w0, int_fits w1, int_fits w2, int_fits w3⟩
end
/-- A row within a struct. -/
theorem reads_rows {α : Type} {H : Type} {enc : TypeId × Value → H} {W : World} {t e : TypeId} {sz : Nat} {f : α → List Value} {q : α → Prop} (ht : Tryd.prog.underlying t = some (.slice e)) (hc : Tryd.prog.cellsOf e = sz) (hp : Reads enc W 0 (fun _ => true) true e fun cs => ∃ g, cs = f g ∧ q g) (hone : Tryd.prog.cellsOf t = 1) :
    Reads enc W 0 (fun _ => true) true t fun cs => ∃ (l : List α) (a : Option Addr) (cap : Nat), cs = [.slice a l.length cap] ∧ (∀ j g, l[j]? = some g → ∃ y, a = some y ∧ (∀ i, i < sz → W.cell? (y.add (j * sz + i)) = (f g)[i]?)) ∧ (∀ g ∈ l, q g) ∧ (a = none → cap = 0) ∧ l.length ≤ cap := fun n cs x h => by
  have h' := h
  rcases Go.Deep.open_slice ht h with ⟨hcs, _⟩ | ⟨ad, l, c', m, n', Dd, Pl, hcs, _⟩
  · subst hcs
    obtain ⟨L, hL, h1, h2, h3, h4, _⟩ := open_rows (f := f) (q := q) ht hc hp h'
    exact ⟨L, _, _, by rw [hL], h1, h2, h3, by omega⟩
  · subst hcs
    obtain ⟨L, hL, h1, h2, h3, h4, _⟩ := open_rows (f := f) (q := q) ht hc hp h'
    exact ⟨L, _, _, by rw [hL], h1, h2, h3, by omega⟩
end Go.Proofs.YtapgjdmnlkedgaaDoor

/-! NODES AND BRACKETS THAT CAME IN (door seats). Written by mk_ndoor.py. -/
namespace Go.Proofs.YtapgjdmnlkedgaaDoor
open Go.ChangeShapes Go.WideShapes Go.ChangeAt Go.RowKit
set_option maxRecDepth 8000
set_option linter.unusedVariables false
set_option linter.unusedSimpArgs false

def gcells (g : Gr) : List Value := [.string g.u, .int .i64 g.m]
def wcell (x : Int) : List Value := [.int .i64 x]
theorem RowAt.grs {W : World} {a : Option Addr} {l : List Gr} (h : RowAt 2 gcells W a l) : GrsAt W a l := fun j q hq => by
  obtain ⟨y, hy, hc⟩ := h j q hq
  refine ⟨y, hy, hc 0 (by omega), ?_⟩
  have := hc 1 (by omega)
  rw [add_off _ _ _ (by omega)] at this
  exact this
theorem RowAt.wrds {W : World} {a : Option Addr} {l : List Int} (h : RowAt 1 wcell W a l) : WrdsAt W a l := fun j q hq => by
  obtain ⟨y, hy, hc⟩ := h j q hq
  have := hc 0 (by omega)
  rw [Nat.mul_one, Nat.add_zero] at this
  exact ⟨y, hy, this⟩
theorem undGr : Tryd.prog.underlying 80 = some (.struct (Tryd.prog.fieldsOf 80)) := by kernel_rfl
theorem undRi : Tryd.prog.underlying 33 = some (.struct (Tryd.prog.fieldsOf 33)) := by kernel_rfl
theorem undNd : Tryd.prog.underlying 36 = some (.struct (Tryd.prog.fieldsOf 36)) := by kernel_rfl
theorem cGr : Tryd.prog.cellsOf 80 = 2 := by kernel_rfl
theorem cRi : Tryd.prog.cellsOf 33 = 4 := by kernel_rfl
theorem cNd : Tryd.prog.cellsOf 36 = 16 := by kernel_rfl
theorem cI64 : Tryd.prog.cellsOf 2 = 1 := by kernel_rfl
theorem cGrs : Tryd.prog.cellsOf 31 = 1 := by kernel_rfl
theorem cWds : Tryd.prog.cellsOf 34 = 1 := by kernel_rfl
/-- What a node that came in keeps to. -/
structure Nod.Fits (n : Nod) : Prop where
  p : n.path.size ≤ 9223372036854775807
  g : ∀ g ∈ n.acl, g.u.size ≤ 9223372036854775807
  w : ∀ x ∈ n.words, -9223372036854775808 ≤ x ∧ x ≤ 9223372036854775807
section
variable {H : Type} {enc : TypeId × Value → H} {W : World}
theorem reads_gr {base : Nat} {sp : Nat → Bool} {held : Bool} : Reads enc W base sp held 80 fun cs => ∃ g, cs = gcells g ∧ g.u.size ≤ 9223372036854775807 := fun n cs x h => by
  have hl := struct_len undGr cGr h
  obtain ⟨u, e0, w0⟩ := read_field (i := 0) (ty := 9) (off := 0) undGr (by kernel_rfl) cStr (reads_string Tryd.underlying9) h
  obtain ⟨m, e1, w1⟩ := read_field (i := 1) (ty := 3) (off := 1) undGr (by kernel_rfl) cInt (reads_int Tryd.underlying3) h
  match cs, hl with
  | [v0, v1], _ =>
    simp at e0 e1
    subst e0 e1
    exact ⟨⟨u, m⟩, rfl, w0⟩
theorem reads_ri {base : Nat} {sp : Nat → Bool} {held : Bool} : Reads enc W base sp held 33 fun cs => ∃ a b c d : Int, cs = [.int .i64 a, .int .i64 b, .int .i64 c, .int .i64 d] := fun n cs x h => by
  have hl := struct_len undRi cRi h
  obtain ⟨s, e0, w0⟩ := read_field (i := 0) (ty := 3) (off := 0) undRi (by kernel_rfl) cInt (reads_int Tryd.underlying3) h
  obtain ⟨c, e1, w1⟩ := read_field (i := 1) (ty := 3) (off := 1) undRi (by kernel_rfl) cInt (reads_int Tryd.underlying3) h
  obtain ⟨i, e2, w2⟩ := read_field (i := 2) (ty := 3) (off := 2) undRi (by kernel_rfl) cInt (reads_int Tryd.underlying3) h
  obtain ⟨k, e3, w3⟩ := read_field (i := 3) (ty := 3) (off := 3) undRi (by kernel_rfl) cInt (reads_int Tryd.underlying3) h
  match cs, hl with
  | [v0, v1, v2, v3], _ =>
    simp at e0 e1 e2 e3
    subst e0 e1 e2 e3
    exact ⟨s, c, i, k, rfl⟩
theorem reads_wd {base : Nat} {sp : Nat → Bool} {held : Bool} : Reads enc W base sp held 2 fun cs => ∃ x : Int, cs = wcell x ∧ (-9223372036854775808 ≤ x ∧ x ≤ 9223372036854775807) := fun n cs x h => by
  obtain ⟨m, e, hw⟩ := reads_int Tryd.underlying2 n cs x h
  exact ⟨m, e, int_fits hw⟩
theorem reads_nd : Reads enc W 0 (fun _ => true) true 36 fun cs => ∃ (n : Nod) (aa : Option Addr) (ca : Nat) (wa : Option Addr) (cw : Nat), .agg cs.toArray = n.v aa ca wa cw ∧ n.Fits ∧ GrsAt W aa n.acl ∧ WrdsAt W wa n.words ∧ (wa = none → cw = 0) ∧ n.words.length ≤ cw := fun fu cs x h => by
  have hl := struct_len undNd cNd h
  obtain ⟨pa, e0, w0⟩ := read_field (i := 0) (ty := 9) (off := 0) undNd (by kernel_rfl) cStr (reads_string Tryd.underlying9) h
  obtain ⟨di, e1⟩ := read_field (i := 1) (ty := 4) (off := 1) undNd (by kernel_rfl) cBool (reads_bool Tryd.underlying4) h
  obtain ⟨la, e2, _⟩ := read_field (i := 2) (ty := 25) (off := 2) undNd (by kernel_rfl) cLab reads_lab h
  obtain ⟨gs, aa, ca, e3, hg, hgq, _, _⟩ := read_field (i := 3) (ty := 31) (off := 6) undNd (by kernel_rfl) cGrs (reads_rows (f := gcells) Tryd.underlying31 cGr reads_gr cGrs) h
  obtain ⟨r1, r2, r3, r4, e4⟩ := read_field (i := 4) (ty := 33) (off := 7) undNd (by kernel_rfl) cRi reads_ri h
  obtain ⟨ws, wa, cw, e5, hv, hvq, hno, hle⟩ := read_field (i := 5) (ty := 34) (off := 11) undNd (by kernel_rfl) cWds (reads_rows (f := wcell) Tryd.underlying34 cI64 reads_wd cWds) h
  obtain ⟨lb, e6, _⟩ := read_field (i := 6) (ty := 25) (off := 12) undNd (by kernel_rfl) cLab reads_lab h
  match cs, hl with
  | [v0, v1, v2, v3, v4, v5, v6, v7, v8, v9, v10, v11, v12, v13, v14, v15], _ =>
    simp [lcells] at e0 e1 e2 e3 e4 e5 e6
    obtain ⟨rfl, rfl, rfl, rfl⟩ := e2
    obtain ⟨rfl, rfl, rfl, rfl⟩ := e4
    obtain ⟨rfl, rfl, rfl, rfl⟩ := e6
    subst e0 e1 e3 e5
    exact ⟨⟨pa, di, la, gs, r1, r2, r3, r4, ws, lb⟩, aa, ca, wa, cw, rfl, ⟨w0, hgq, hvq⟩, RowAt.grs hg, RowAt.wrds hv, hno, hle⟩
theorem open_nd {r : Reach} {b0 : Nat} {v : Value} {d : DataW H} {p : List MemPlace} (hv : Value.okWide Tryd.prog W r b0 36 v) (h : DataW.Trod enc Tryd.prog W 0 (fun _ => true) true 36 v d p) :
    ∃ (n : Nod) (aa : Option Addr) (ca : Nat) (wa : Option Addr) (cw : Nat), v = n.v aa ca wa cw ∧ n.Fits ∧ GrsAt W aa n.acl ∧ WrdsAt W wa n.words ∧ (wa = none → cw = 0) ∧ n.words.length ≤ cw := by
  obtain ⟨cs, rfl, n, aa, ca, wa, cw, he, hf, hg, hw, hz, hc⟩ := open_struct undNd reads_nd hv h
  exact ⟨n, aa, ca, wa, cw, he, hf, hg, hw, hz, hc⟩
theorem open_rg {r : Reach} {b0 base : Nat} {sp : Nat → Bool} {held : Bool} {v : Value} {d : DataW H} {p : List MemPlace} (hv : Value.okWide Tryd.prog W r b0 33 v) (h : DataW.Trod enc Tryd.prog W base sp held 33 v d p) : ∃ x : Rg, v = x.v := by
  obtain ⟨cs, rfl, a, b, c, e, he⟩ := open_struct undRi reads_ri hv h
  exact ⟨⟨a, b, c, e⟩, by rw [he]⟩
end
end Go.Proofs.YtapgjdmnlkedgaaDoor

/-! NODES, LABELS AND WAYS TO MAKE NODES THAT CAME IN, in rows. -/
namespace Go.Proofs.YtapgjdmnlkedgaaDoor
open Go.ChangeShapes Go.WideShapes Go.ChangeAt Go.RowKit
set_option maxRecDepth 8000
set_option linter.unusedVariables false
set_option linter.unusedSimpArgs false

def icell (x : Int) : List Value := [.int .i64 x]
/-- A way to make a node, and where its rows lie. -/
structure PM where
  m : Mk
  pa : Option Addr
  pc : Nat
  aa : Option Addr
  ca : Nat
  wa : Option Addr
  cw : Nat
def PM.cs (x : PM) : List Value := [.slice x.pa x.m.path.length x.pc, .bool x.m.dir, .int .i64 x.m.up.s, .int .i64 x.m.up.c, .int .i64 x.m.up.i, .int .i64 x.m.up.k, .slice x.aa x.m.acl.length x.ca, .int .i64 x.m.rings.a, .int .i64 x.m.rings.b, .int .i64 x.m.rings.c, .int .i64 x.m.rings.g, .slice x.wa x.m.words.length x.cw, .int .i64 x.m.by_.s, .int .i64 x.m.by_.c, .int .i64 x.m.by_.i, .int .i64 x.m.by_.k]
structure PM.At (W : World) (x : PM) : Prop where
  p : RowAt 1 icell W x.pa x.m.path
  g : GrsAt W x.aa x.m.acl
  w : WrdsAt W x.wa x.m.words
  f : ∀ q ∈ x.m.path, -9223372036854775808 ≤ q ∧ q ≤ 9223372036854775807
theorem PM.At.below {W W' : World} {x : PM} (h : x.At W) (b : Below W.heap.size W W') : x.At W' := ⟨h.p.below (fun _ => rfl) b, h.g.below b, h.w.below b, h.f⟩
structure RowM (W : World) (a : Option Addr) (l : List PM) : Prop where
  r : RowAt 16 PM.cs W a l
  p : ∀ x ∈ l, x.At W
theorem RowM.below {W W' : World} {a : Option Addr} {l : List PM} (h : RowM W a l) (b : Below W.heap.size W W') : RowM W' a l := ⟨h.r.below (fun _ => rfl) b, fun x hx => (h.p x hx).below b⟩
section
variable {H : Type} {enc : TypeId × Value → H} {W : World}
theorem undMk : Tryd.prog.underlying 69 = some (.struct (Tryd.prog.fieldsOf 69)) := by kernel_rfl
theorem cMk : Tryd.prog.cellsOf 69 = 16 := by kernel_rfl
theorem cInts : Tryd.prog.cellsOf 26 = 1 := by kernel_rfl
theorem reads_ic {base : Nat} {sp : Nat → Bool} {held : Bool} : Reads enc W base sp held 3 fun cs => ∃ x : Int, cs = icell x ∧ (-9223372036854775808 ≤ x ∧ x ≤ 9223372036854775807) := fun n cs x h => by
  obtain ⟨m, e, hw⟩ := reads_int Tryd.underlying3 n cs x h
  exact ⟨m, e, int_fits hw⟩
theorem reads_mk : Reads enc W 0 (fun _ => true) true 69 fun cs => ∃ x : PM, cs = x.cs ∧ x.At W := fun fu cs x h => by
  have hl := struct_len undMk cMk h
  obtain ⟨ps, pa, pc, e0, hp, hpq, _, _⟩ := read_field (i := 0) (ty := 26) (off := 0) undMk (by kernel_rfl) cInts (reads_rows (f := icell) Tryd.underlying26 cInt reads_ic cInts) h
  obtain ⟨di, e1⟩ := read_field (i := 1) (ty := 4) (off := 1) undMk (by kernel_rfl) cBool (reads_bool Tryd.underlying4) h
  obtain ⟨la, e2, _⟩ := read_field (i := 2) (ty := 25) (off := 2) undMk (by kernel_rfl) cLab reads_lab h
  obtain ⟨gs, aa, ca, e3, hg, hgq, _, _⟩ := read_field (i := 3) (ty := 31) (off := 6) undMk (by kernel_rfl) cGrs (reads_rows (f := gcells) Tryd.underlying31 cGr reads_gr cGrs) h
  obtain ⟨r1, r2, r3, r4, e4⟩ := read_field (i := 4) (ty := 33) (off := 7) undMk (by kernel_rfl) cRi reads_ri h
  obtain ⟨ws, wa, cw, e5, hv, hvq, hno, hle⟩ := read_field (i := 5) (ty := 34) (off := 11) undMk (by kernel_rfl) cWds (reads_rows (f := wcell) Tryd.underlying34 cI64 reads_wd cWds) h
  obtain ⟨lb, e6, _⟩ := read_field (i := 6) (ty := 25) (off := 12) undMk (by kernel_rfl) cLab reads_lab h
  match cs, hl with
  | [v0, v1, v2, v3, v4, v5, v6, v7, v8, v9, v10, v11, v12, v13, v14, v15], _ =>
    simp [lcells] at e0 e1 e2 e3 e4 e5 e6
    obtain ⟨rfl, rfl, rfl, rfl⟩ := e2
    obtain ⟨rfl, rfl, rfl, rfl⟩ := e4
    obtain ⟨rfl, rfl, rfl, rfl⟩ := e6
    subst e0 e1 e3 e5
    exact ⟨⟨⟨ps, di, la, gs, ⟨r1, r2, r3, r4⟩, ws, lb⟩, pa, pc, aa, ca, wa, cw⟩, rfl, ⟨hp, RowAt.grs hg, RowAt.wrds hv, hpq⟩⟩
theorem open_mks {n : Nat} {a : Option Addr} {len cap : Nat} {x : DataW H × List MemPlace} (h : DataW.trod enc Tryd.prog W 0 (fun _ => true) true n 23 [.slice a len cap] = some x) : ∃ l, l.length = len ∧ RowM W a l := by
  obtain ⟨l, hl, hc, hf, _⟩ := open_rows (f := PM.cs) (q := PM.At W) Tryd.underlying23 cMk reads_mk h
  exact ⟨l, hl, ⟨hc, hf⟩⟩
theorem reads_pn : Reads enc W 0 (fun _ => true) true 36 fun cs => ∃ x : PN, cs = x.cs ∧ (x.At W ∧ x.n.Fits) := fun fu cs x h => by
  obtain ⟨n, aa, ca, wa, cw, he, hf, hg, hw, _, _⟩ := reads_nd fu cs x h
  refine ⟨⟨n, aa, ca, wa, cw⟩, ?_, ⟨hg, hw⟩, hf⟩
  injection he with he
  have := congrArg Array.toList he
  simpa [PN.cs, nclT] using this
theorem open_nds {n : Nat} {a : Option Addr} {len cap : Nat} {x : DataW H × List MemPlace} (h : DataW.trod enc Tryd.prog W 0 (fun _ => true) true n 28 [.slice a len cap] = some x) : ∃ l : List PN, l.length = len ∧ RowN W a l ∧ ∀ x ∈ l, x.n.Fits := by
  obtain ⟨l, hl, hc, hf, _⟩ := open_rows (f := PN.cs) (q := fun x => x.At W ∧ x.n.Fits) Tryd.underlying28 cNd reads_pn h
  exact ⟨l, hl, ⟨hc, fun x hx => (hf x hx).1⟩, fun x hx => (hf x hx).2⟩
theorem open_lbs {n : Nat} {a : Option Addr} {len cap : Nat} {x : DataW H × List MemPlace} (h : DataW.trod enc Tryd.prog W 0 (fun _ => true) true n 22 [.slice a len cap] = some x) : ∃ l : List Lab, l.length = len ∧ RowAt 4 lcells W a l := by
  obtain ⟨l, hl, hc, hf, _⟩ := open_rows (f := lcells) (q := Lab.fits) Tryd.underlying22 cLab reads_lab h
  exact ⟨l, hl, hc⟩
theorem undLb : Tryd.prog.underlying 25 = some (.struct (Tryd.prog.fieldsOf 25)) := by kernel_rfl
theorem open_lb {r : Reach} {b0 : Nat} {v : Value} {d : DataW H} {p : List MemPlace} (hv : Value.okWide Tryd.prog W r b0 25 v) (h : DataW.Trod enc Tryd.prog W 0 (fun _ => true) true 25 v d p) : ∃ l : Lab, v = l.v := by
  obtain ⟨cs, rfl, l, rfl, _⟩ := open_struct undLb reads_lab hv h
  exact ⟨l, rfl⟩
theorem open_is {n : Nat} {a : Option Addr} {len cap : Nat} {x : DataW H × List MemPlace} (h : DataW.trod enc Tryd.prog W 0 (fun _ => true) true n 26 [.slice a len cap] = some x) : ∃ l : List Int, l.length = len ∧ RowAt 1 icell W a l ∧ ∀ q ∈ l, -9223372036854775808 ≤ q ∧ q ≤ 9223372036854775807 := by
  obtain ⟨l, hl, hc, hf, _⟩ := open_rows (f := icell) (q := fun q => -9223372036854775808 ≤ q ∧ q ≤ 9223372036854775807) Tryd.underlying26 cInt reads_ic h
  exact ⟨l, hl, hc, hf⟩
end
end Go.Proofs.YtapgjdmnlkedgaaDoor

/-! NODES TOLD BY DIRECTORIES: the document's own Under (donjonref11); the law's Same. -/
namespace Go.Proofs.YtapgjdmnlkedgaaDoor
open Go.RowKit
set_option maxRecDepth 8000
set_option linter.unusedSimpArgs false
set_option linter.unusedVariables false

def scell (s : ByteArray) : List Value := [.string s]
theorem str_ok : ElemOk 9 83 1 scell :=
  ⟨Tryd.underlying83, by
    obtain ⟨i, h1, h2, h3, h4⟩ := info_of (e := 9) (z := .string ⟨#[]⟩) (sz := 1) (b := 16) (by kernel_rfl)
    exact ⟨i, _, _, h1, h2, h3, h4, rfl, by omega⟩, by omega, fun _ => rfl, fun x u hu => by simp [scell] at hu; subst hu; rfl⟩
abbrev OwnT (W : World) (base : Nat) (v : Value) (l : List ByteArray) : Prop := OwnR 9 1 scell W base v l
theorem slash_lit (u : ByteArray) : eqs u slashS = (u.toList == [47]) := by
  unfold eqs
  rw [show slashS.toList = [47] from by simp [slashS]]
def sameN (l m : List Nod) : Bool := l.length == m.length && allEq nodEq l m
theorem sameN_iff {l m : List Nod} : sameN l m = true ↔ l = m := by
  unfold sameN
  rw [Bool.and_eq_true, allEq_iff (fun _ _ => nodEq_iff), beq_iff_eq]
  constructor
  · exact fun h => h.2
  · rintro rfl
    exact ⟨rfl, rfl⟩
def Fits (l : List PN) : Prop := ∀ x ∈ l, x.n.acl.length ≤ 1000000 ∧ x.n.words.length ≤ 1000000
theorem names_get {l : List PN} {i : Nat} {x : PN} (h : l[i]? = some x) : (namesP l)[i]? = some x.n := by
  unfold namesP
  rw [List.getElem?_map, h]
  rfl
end Go.Proofs.YtapgjdmnlkedgaaDoor
