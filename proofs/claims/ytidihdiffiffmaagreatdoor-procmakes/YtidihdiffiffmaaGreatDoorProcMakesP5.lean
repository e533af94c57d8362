/-
  PART 5 of what ProcMakes leans on: PcOwn PcPut PcOpens ProcSeg TreeFind MonFns.
-/
import Derived.Deep.Cut
import Derived.Deep.CutRange
import Derived.Deep.RegionHeld
import Derived.Deep.CutBlock
import Derived.Test.YtidihdiffiffmaaGreatDoorProcMakesP4
namespace Go.Proofs.YtidihdiffiffmaaGreatDoor
open Go.RowKit
set_option maxRecDepth 8000
set_option linter.unusedSimpArgs false
set_option linter.unusedVariables false
def PN.av (x : PN) : Value := .slice x.aa x.n.acl.length x.ca
def PN.wv (x : PN) : Value := .slice x.wa x.n.words.length x.cw
structure OwnX (W : World) (B : Nat) (l : List PN) : Prop where
 acl : ∀ x ∈ l, OwnR 119 2 gcl W B x.av x.n.acl
 wds : ∀ x ∈ l, OwnR 2 1 wcl W B x.wv x.n.words
 dis : l.Pairwise fun x y => ∀ g, x.wv.ownBlock = some g → y.wv.ownBlock ≠ some g
 apt : ∀ x ∈ l, ∀ y ∈ l, ∀ g, x.wv.ownBlock = some g → y.av.ownBlock ≠ some g
theorem OwnX.below {W W' : World} {B : Nat} {l : List PN} (h : OwnX W B l) (b : Below W.heap.size W W') : OwnX W' B l := ⟨fun x hx => (h.acl x hx).below b, fun x hx => (h.wds x hx).below b, h.dis, h.apt⟩
theorem OwnX.keep {W W' : World} {B : Nat} {l : List PN} (h : OwnX W B l) (b : ∀ j, B ≤ j → j < W.heap.size → W'.heap[j]? = W.heap[j]?) : OwnX W' B l := ⟨fun x hx => (h.acl x hx).keep fun k hk => b k ((h.acl x hx).lt hk).1 ((h.acl x hx).lt hk).2, fun x hx => (h.wds x hx).keep fun k hk => b k ((h.wds x hx).lt hk).1 ((h.wds x hx).lt hk).2, h.dis, h.apt⟩
theorem OwnX.nil (W : World) (B : Nat) : OwnX W B [] := ⟨fun x hx => by (cases hx), fun x hx => by (cases hx), List.Pairwise.nil, fun x hx => by (cases hx)⟩
theorem OwnX.push {W : World} {B L : Nat} {l : List PN} {x : PN} (h : OwnX W B l) (hL : B ≤ L) (hlt : ∀ y ∈ l, ∀ g, (y.av.ownBlock = some g ∨ y.wv.ownBlock = some g) → g < L) (ha : OwnR 119 2 gcl W L x.av x.n.acl) (hw : OwnR 2 1 wcl W L x.wv x.n.words) (hd : ∀ g, x.wv.ownBlock = some g → x.av.ownBlock ≠ some g) : OwnX W B (l ++ [x]) := by
 refine ⟨fun y hy => ?_, fun y hy => ?_, ?_, fun y hy z hz g hg => ?_⟩
 ·rcases List.mem_append.1 hy with hy | hy
  ·exact h.acl y hy
  ·rw [List.mem_singleton.1 hy]; exact ha.lower hL
 ·rcases List.mem_append.1 hy with hy | hy
  ·exact h.wds y hy
  ·rw [List.mem_singleton.1 hy]; exact hw.lower hL
 ·rw [List.pairwise_append]
  refine ⟨h.dis, by simp, fun y hy z hz g hg q => ?_⟩
  rw [List.mem_singleton.1 hz] at q
  have h1 := hlt y hy g (.inr hg)
  have h2 := (hw.lt q).1
  omega
 ·rcases List.mem_append.1 hy with hy | hy <;> rcases List.mem_append.1 hz with hz | hz
  ·exact h.apt y hy z hz g hg
  ·rw [List.mem_singleton.1 hz]
   intro q
   have h1 := hlt y hy g (.inr hg)
   have h2 := (ha.lt q).1
   omega
  ·rw [List.mem_singleton.1 hy] at hg
   intro q
   have h1 := hlt z hz g (.inl q)
   have h2 := (hw.lt hg).1
   omega
  ·rw [List.mem_singleton.1 hy] at hg
   rw [List.mem_singleton.1 hz]
   exact hd g hg
theorem OwnX.few {W : World} {B : Nat} {l : List PN} (h : OwnX W B l) : ∀ y ∈ l, ∀ g, (y.av.ownBlock = some g ∨ y.wv.ownBlock = some g) → g < W.heap.size := fun y hy g hg => by
 rcases hg with hg | hg
 ·exact ((h.acl y hy).lt hg).2
 ·exact ((h.wds y hy).lt hg).2
structure OwnL (W : World) (B n : Nat) (l : List PN) (i : Nat) (l1 : List PN) : Prop where
 ln : l.length = n
 le : i ≤ n
 len : l1.length = i
 nm : namesP l1 = namesP (l.take i)
 row : OwnN W B (.slice (some ⟨B, 0, none⟩) n n) (l1 ++ l.drop i)
 own : OwnX W (B + 1) l1
theorem OwnL.below {W W' : World} {B n : Nat} {l l1 : List PN} {i : Nat} (h : OwnL W B n l i l1) (b : Below W.heap.size W W') : OwnL W' B n l i l1 := ⟨h.ln, h.le, h.len, h.nm, h.row.below b, h.own.below b⟩
theorem OwnL.at_ {W : World} {B n : Nat} {l l1 : List PN} {i : Nat} {x : PN} (h : OwnL W B n l i l1) (hx : l[i]? = some x) : (l1 ++ l.drop i)[i]? = some x := by
 rw [List.getElem?_append_right (by rw [h.len]; exact Nat.le_refl _), h.len, Nat.sub_self, List.getElem?_drop, Nat.add_zero]
 exact hx
theorem OwnL.all {W : World} {B n : Nat} {l l1 : List PN} {i : Nat} (h : OwnL W B n l i l1) : (l1 ++ l.drop i).length = n := by
 rw [List.length_append, List.length_drop, h.len, h.ln]
 have := h.le
 omega
theorem blk_setO {W : World} {b g : Nat} {cs : List Value} (h : BlkL b cs W) (hne : b ≠ g) (o : Nat) (u : Value) : BlkL b cs (W.setCell ⟨g, o, none⟩ u) := ⟨h.1.same (heap_setCell_other W ⟨g, o, none⟩ b u hne), by simpa using h.2⟩
theorem own_step {w0 w1 w2 : World} {B n i : Nat} {l l1 : List PN} {x : PN} (hL : OwnL w0 B n l i l1) (hx : l[i]? = some x) (hb1 : Below w0.heap.size w0 w1) (hg1 : OwnR 119 2 gcl w1 w0.heap.size (.slice (some ⟨w0.heap.size, 0, none⟩) x.n.acl.length x.n.acl.length) x.n.acl) (hb2 : Below w1.heap.size w1 w2) (hw2 : OwnR 2 1 wcl w2 w1.heap.size (.slice (some ⟨w1.heap.size, 0, none⟩) x.n.words.length x.n.words.length) x.n.words) :
    ∃ x2 : PN, w2.frozen? ⟨B, i * 16 + 6, none⟩ = false ∧ (∃ z, w2.cell? ⟨B, i * 16 + 6, none⟩ = some z) ∧ (w2.setCell ⟨B, i * 16 + 6, none⟩ (.slice (some ⟨w0.heap.size, 0, none⟩) x.n.acl.length x.n.acl.length)).frozen? ⟨B, i * 16 + 11, none⟩ = false ∧ (∃ z, (w2.setCell ⟨B, i * 16 + 6, none⟩ (.slice (some ⟨w0.heap.size, 0, none⟩) x.n.acl.length x.n.acl.length)).cell? ⟨B, i * 16 + 11, none⟩ = some z) ∧
     OwnL ((w2.setCell ⟨B, i * 16 + 6, none⟩ (.slice (some ⟨w0.heap.size, 0, none⟩) x.n.acl.length x.n.acl.length)).setCell ⟨B, i * 16 + 11, none⟩ (.slice (some ⟨w1.heap.size, 0, none⟩) x.n.words.length x.n.words.length)) B n l (i + 1) (l1 ++ [x2]) := by
 have hil : i < l.length := (List.getElem?_eq_some_iff.1 hx).1
 have hln := hL.ln
 have hb12 := Below.then hb1 hb2
 have hl1 := hL.len
 have hlt1 : w0.heap.size < w1.heap.size := (hg1.lt rfl).2
 have hB0 : B < w0.heap.size := (hL.row.lt rfl).2
 have hrow := (hL.below hb12).row
 obtain ⟨x1, hx1⟩ : ∃ x1 : PN, x1 = ⟨x.n, some ⟨w0.heap.size, 0, none⟩, x.n.acl.length, x.wa, x.cw⟩ := ⟨_, rfl⟩
 obtain ⟨x2, hx2⟩ : ∃ x2 : PN, x2 = ⟨x.n, some ⟨w0.heap.size, 0, none⟩, x.n.acl.length, some ⟨w1.heap.size, 0, none⟩, x.n.words.length⟩ := ⟨_, rfl⟩
 obtain ⟨h3, hf3, hc3⟩ := OwnR.storedR (u := .slice (some ⟨w0.heap.size, 0, none⟩) x.n.acl.length x.n.acl.length) (y := x1) pn_len hrow hL.all.symm (hL.at_ hx) (show 6 < 16 by omega) (by rw [hx1]; rfl)
 have hx1' : ((l1 ++ l.drop i).set i x1)[i]? = some x1 := by
  rw [List.getElem?_set_self]
  rw [hL.all]
  omega
 obtain ⟨h4, hf4, hc4⟩ := OwnR.storedR (u := .slice (some ⟨w1.heap.size, 0, none⟩) x.n.words.length x.n.words.length) (y := x2) pn_len h3 (by rw [List.length_set, hL.all]) hx1' (show 11 < 16 by omega) (by rw [hx1, hx2]; rfl)
 have he : ((l1 ++ l.drop i).set i x1).set i x2 = (l1 ++ [x2]) ++ l.drop (i + 1) := by
  rw [List.set_set, List.set_append_right _ _ (by omega), hl1, Nat.sub_self, List.drop_eq_getElem_cons hil, List.set_cons_zero, List.append_assoc]
  rfl
 rw [he] at h4
 have hkp : ∀ j, B + 1 ≤ j → ((w2.setCell ⟨B, i * 16 + 6, none⟩ (.slice (some ⟨w0.heap.size, 0, none⟩) x.n.acl.length x.n.acl.length)).setCell ⟨B, i * 16 + 11, none⟩ (.slice (some ⟨w1.heap.size, 0, none⟩) x.n.words.length x.n.words.length)).heap[j]? = w2.heap[j]? := fun j hj => (heap_setCell_other _ ⟨B, i * 16 + 11, none⟩ j _ (show j ≠ B by omega)).trans (heap_setCell_other _ ⟨B, i * 16 + 6, none⟩ j _ (show j ≠ B by omega))
 have hxn : x2.n = x.n := by rw [hx2]
 refine ⟨x2, hf3, hc3, hf4, hc4, hln, by omega, by rw [List.length_append, hl1]; rfl, ?_, h4, ?_⟩
 ·unfold namesP at *
  rw [List.map_append, show l1.map (·.n) = (l.take i).map (·.n) from hL.nm, List.take_add_one, hx, List.map_append]
  simp [hxn]
 ·have ho := ((hL.own.below hb12).keep (fun j hj _ => hkp j hj))
  refine ho.push (L := w0.heap.size) (by omega) (fun y hy g hg => hL.own.few y hy g hg) ?_ ?_ ?_
  ·rw [hx2]
   exact (hg1.below hb2).keep fun k hk => hkp k (by have := (hg1.lt hk).1; omega)
  ·rw [hx2]
   exact (hw2.keep fun k hk => hkp k (by have := (hw2.lt hk).1; omega)).lower (by omega)
  ·rw [hx2]
   intro g hg q
   have h5 := Option.some.inj (show some w1.heap.size = some g from hg)
   have h6 := Option.some.inj (show some w0.heap.size = some g from q)
   omega
theorem grsP_load (w : World) (y : Addr) (v : Value) (h : w.cell? y = some v) : (Instr.loadAt 31 (.pointer (some y))).run Tryz.prog w = .ok v w := by
 have h1 := Tryz.underlying31
 go_simp
theorem wrdsP_load (w : World) (y : Addr) (v : Value) (h : w.cell? y = some v) : (Instr.loadAt 34 (.pointer (some y))).run Tryz.prog w = .ok v w := by
 have h1 := Tryz.underlying34
 go_simp
theorem grsP_store (w : World) (y : Addr) (u v : Value) {a : Option Addr} {n c : Nat} (hc : w.cell? y = some u) (hf : w.frozen? y = false) (hv : v = .slice a n c) : (Instr.storeAt 31 (.pointer (some y)) v).run Tryz.prog w = .ok () (w.setCell y v) := by
 subst hv
 have h1 := Tryz.underlying31
 go_simp
theorem wrdsP_store (w : World) (y : Addr) (u v : Value) {a : Option Addr} {n c : Nat} (hc : w.cell? y = some u) (hf : w.frozen? y = false) (hv : v = .slice a n c) : (Instr.storeAt 34 (.pointer (some y)) v).run Tryz.prog w = .ok () (w.setCell y v) := by
 subst hv
 have h1 := Tryz.underlying34
 go_simp
set_option maxRecDepth 8000 in
set_option maxHeartbeats 4000000 in
theorem pown_any (a : Option Addr) (cap : Nat) (l : List PN) (hl : l.length ≤ 1000) (hF : ∀ x ∈ l, x.Few) (w : World) (h : RowN w a l) :
    Calls Tryz.prog 33 #[.slice a l.length cap] w fun e w' => ∃ l', e = .returned (.slice (some ⟨w.heap.size, 0, none⟩) l.length l.length) ∧ OwnL w' w.heap.size l.length l l.length l' ∧ Below w.heap.size w w' := by
 have hund := Tryz.underlying36
 have hsz : (Tryz.prog.info? 36).map (·.size) = some 16 := by kernel_rfl
 have k0 := pcpN_any a cap l w hl h.r
 obtain ⟨n, hn⟩ : ∃ n, l.length = n := ⟨_, rfl⟩
 rw [hn] at hl k0 ⊢
 replace hn : Aside (l.length = n) := hn
 go_enter Tryz.func33, Tryz.ntmps33
 go_wp2_with fail
 refine k0.mono ?_
 rintro e W1 ⟨rfl, ho, hB1⟩
 have hL1 : OwnL W1 w.heap.size n l 0 [] := ⟨hn.out, Nat.zero_le _, rfl, rfl, by rw [List.drop_zero, List.nil_append]; exact ho, OwnX.nil _ _⟩
 clear k0 ho
 go_wp2_with fail
 go_loopw [10] (fun t10 wr => ∃ (i : Nat) (l1 : List PN), i ≤ n ∧ t10 = .int .i64 (i : Int) ∧ OwnL wr w.heap.size n l i l1 ∧ Below w.heap.size w wr) (fun t10 _ => n - (Go.RowKit.intOf t10).toNat)
 case atStart => exact ⟨0, [], by omega, rfl, hL1, hB1⟩
 case round =>
  obtain ⟨i, l1, hi, rfl, hL, hB⟩ := hrel
  by_cases hlt : i < n
  ·obtain ⟨x, hx⟩ : ∃ x, l[i]? = some x := ⟨_, List.getElem?_eq_getElem (by rw [hn.out]; exact hlt)⟩
   have hxm := List.mem_of_getElem? hx
   have hfx := hF x hxm
   have hxa := (h.below hB).p x hxm
   have hc := (hL.row.slice pn_len)
   obtain ⟨ra, rc, hrv, -, -, hr⟩ := hc
   injection hrv with q1 q2 q3
   subst q1
   have hw := hr.at pn_len (hL.at_ hx)
   rw [add_at] at hw
   have hbl : w.heap.size < wr.heap.size := (hL.row.lt rfl).2
   clear hr q2 q3
   have h6 : x.cs[6]? = some (.slice x.aa x.n.acl.length x.ca) := rfl
   have h11 : x.cs[11]? = some (.slice x.wa x.n.words.length x.cw) := rfl
   have hone := pn_one x
   obtain ⟨cs, hcs⟩ : ∃ cs, x.cs = cs := ⟨_, rfl⟩
   have hlen : cs.length = 16 := by rw [← hcs]; rfl
   rw [hcs] at hw h6 h11 hone
   have hszc : (Tryz.prog.info? 36).map (·.size) = some cs.length := by rw [hlen]; exact hsz
   obtain ⟨W4, hW4, hth4, hnb, hb4⟩ := put_new wr #[.string ⟨#[]⟩, .bool false, .int .i64 0, .int .i64 0, .int .i64 0, .int .i64 0, .slice none 0 0, .int .i64 0, .int .i64 0, .int .i64 0, .int .i64 0, .slice none 0 0, .int .i64 0, .int .i64 0, .int .i64 0, .int .i64 0] 36 cs (by rw [hlen]; rfl) (by rw [hlen]; decide)
   have hL0 : OwnL W4.drew w.heap.size n l i l1 := (hL.below hb4).below (Below.refl _ _).drew
   have hB0 : Below w.heap.size w W4.drew := (Below.then hB hb4).drew
   have hS0 : BlkL wr.heap.size cs W4.drew := stab_blk _ _ _ _ hnb (Below.refl _ _).drew
   replace hxa : x.At W4.drew := (hxa.below hb4).below (Below.refl _ _).drew
   clear hL hB hnb hb4 hcs
   go_upto_region 5 with (first | (refine wpList_load_at rfl _ rfl ⟨w.heap.size, i * 16, none⟩ rfl cs hw hund rfl hszc ?_) | (refine wpList_store_row rfl _ _ rfl wr.heap.size rfl cs rfl hth4 hszc hone hW4 ?_) | fail)
   clear hw hth4 hone hszc
   refine wp_region_held_drew (S := (fun W => BlkL wr.heap.size cs W)) (by kernel_rfl) (by exact hS0) ?_
   intro hHeld
   generalize W4.drew = w0 at *
   refine tkA 0 ?_
   refine tkA 1 ?_
   refine tkA 2 ?_
   refine tkA 3 ?_
   refine tkA 4 ?_
   refine tkB 5 (y := yields_cellI (by rfl) _ rfl ⟨wr.heap.size, 6, none⟩ rfl (.slice x.aa x.n.acl.length x.ca) (fun _ s => (s.1 6 _ h6).1) grsP_load) (h := ?_)
   refine tkA 7 ?_
   refine tkB 8 (y := yields_cellI (by rfl) _ rfl ⟨wr.heap.size, 11, none⟩ rfl (.slice x.wa x.n.words.length x.cw) (fun _ s => (s.1 11 _ h11).1) wrdsP_load) (h := ?_)
   refine tkR (rs := [6]) ?_
   refine tkC (fun K hK => ?_) AllReadyH.nil
   go_simp
   go_at_call 54
   refine (pcpG_any x.aa x.ca x.n.acl w0 hfx.1 (grs_row hxa.g)).mono ?_
   rintro e w1 ⟨rfl, hg1, hb1⟩
   have hS1 := stab_blk _ _ _ _ hS0 hb1
   refine hK.out _ _ (hS1) ?_
   clear hHeld hK
   intro hHeld
   (try simp only [Act.put, zsA, zsB, zsC])
   refine tkR (rs := [9]) ?_
   refine tkC (fun K hK => ?_) AllReadyH.nil
   go_simp
   go_at_call 55
   refine (pcpW_any x.wa x.cw x.n.words w1 hfx.2 (wrds_row (hxa.below hb1).w)).mono ?_
   rintro e w2 ⟨rfl, hw2, hb2⟩
   have hS2 := stab_blk _ _ _ _ hS1 hb2
   obtain ⟨x2, hz3, ⟨y3, hy3⟩, hz4, ⟨y4, hy4⟩, hO⟩ := own_step hL0 hx hb1 hg1 hb2 hw2
   have hB2 := Below.then (Below.then hB0 hb1) hb2
   refine hK.out _ _ (hS2) ?_
   clear hHeld hK
   intro hHeld
   clear hb1 hb2 hg1 hw2 hL0 hS0 hS1 hxa hfx
   (try simp only [Act.put, zsA, zsB, zsC])
   refine tkA 10 ?_
   refine tkA 11 ?_
   refine tkR (rs := [12]) ?_
   refine tkC (fun K hK => ?_) AllReadyH.nil
   refine step_st rfl _ _ rfl ⟨w.heap.size, i * 16 + 6, none⟩ rfl (.slice (some ⟨w0.heap.size, 0, none⟩) x.n.acl.length x.n.acl.length) rfl (grsP_store _ _ _ _ hy3 hz3 rfl) ?_
   (try simp only [Act.put, zsA, zsB, zsC])
   refine hK.out _ _ (blk_setO hS2 (by omega) _ _) ?_
   clear hHeld hK
   intro hHeld
   have hS3 : BlkL wr.heap.size cs (w2.setCell ⟨w.heap.size, i * 16 + 6, none⟩ (.slice (some ⟨w0.heap.size, 0, none⟩) x.n.acl.length x.n.acl.length)) := blk_setO hS2 (by omega) _ _
   have hB3 := hB2.setCell (p := ⟨w.heap.size, i * 16 + 6, none⟩) (Nat.le_refl _) (.slice (some ⟨w0.heap.size, 0, none⟩) x.n.acl.length x.n.acl.length)
   obtain ⟨w3, hw3⟩ : ∃ w3, w2.setCell ⟨w.heap.size, i * 16 + 6, none⟩ (.slice (some ⟨w0.heap.size, 0, none⟩) x.n.acl.length x.n.acl.length) = w3 := ⟨_, rfl⟩
   rw [hw3] at hHeld hy4 hz4 hO hS3 hB3 ⊢
   clear hw3 hy3 hz3 hS2 hB2
   (try simp only [Act.put, zsA, zsB, zsC])
   refine tkA 13 ?_
   refine tkA 14 ?_
   refine tkR (rs := [15]) ?_
   refine tkC (fun K hK => ?_) AllReadyH.nil
   refine step_st rfl _ _ rfl ⟨w.heap.size, i * 16 + 11, none⟩ rfl (.slice (some ⟨w1.heap.size, 0, none⟩) x.n.words.length x.n.words.length) rfl (wrdsP_store _ _ _ _ hy4 hz4 rfl) ?_
   (try simp only [Act.put, zsA, zsB, zsC])
   refine hK.out _ _ (blk_setO hS3 (by omega) _ _) ?_
   clear hHeld hK
   intro hHeld
   have hB4 := hB3.setCell (p := ⟨w.heap.size, i * 16 + 11, none⟩) (Nat.le_refl _) (.slice (some ⟨w1.heap.size, 0, none⟩) x.n.words.length x.n.words.length)
   obtain ⟨w4, hw4⟩ : ∃ w4, w3.setCell ⟨w.heap.size, i * 16 + 11, none⟩ (.slice (some ⟨w1.heap.size, 0, none⟩) x.n.words.length x.n.words.length) = w4 := ⟨_, rfl⟩
   rw [hw4] at hHeld hO hB4 ⊢
   clear hw4 hy4 hz4 hS3 hB3
   (try simp only [Act.put, zsA, zsB, zsC])
   refine wpAnyH_done (by kernel_rfl) ?_ _
   clear hHeld
   go_wp2_with fail
   exact ⟨⟨i + 1, l1 ++ [x2], by omega, by simp, hO, hB4⟩, by simp [Go.RowKit.intOf]; omega⟩
  ·obtain rfl : i = n := by omega
   go_wp2_with fail
   go_ret
   exact ⟨l1, rfl, hL, hB⟩
theorem blk_setS {W : World} {b i : Nat} {cs : List Value} (h : BlkL b cs W) (hi : i < cs.length) (u : Value) : BlkL b (cs.set i u) (W.setCell ⟨b, i, none⟩ u) := by
 have h1 := h.1.set i u hi
 exact ⟨h1, by simpa using h.2⟩
theorem strsP_store (w : World) (y : Addr) (u v : Value) {a : Option Addr} {n c : Nat} (hc : w.cell? y = some u) (hf : w.frozen? y = false) (hv : v = .slice a n c) : (Instr.storeAt 39 (.pointer (some y)) v).run Tryz.prog w = .ok () (w.setCell y v) := by
 subst hv
 have h1 := Tryz.underlying39
 go_simp
theorem crsP_store (w : World) (y : Addr) (u v : Value) {a : Option Addr} {n c : Nat} (hc : w.cell? y = some u) (hf : w.frozen? y = false) (hv : v = .slice a n c) : (Instr.storeAt 43 (.pointer (some y)) v).run Tryz.prog w = .ok () (w.setCell y v) := by
 subst hv
 have h1 := Tryz.underlying43
 go_simp
abbrev zPC : Array Value := #[.slice none 0 0, .int .i64 0, .int .i64 0, .int .i64 0, .int .i64 0, .int .i64 0, .int .i64 0, .int .i64 0, .int .i64 0, .int .i64 0, .int .i64 0, .int .i64 0, .int .i64 0, .int .i64 0, .int .i64 0, .int .i64 0, .int .i64 0, .slice none 0 0, .bool false]
set_option maxRecDepth 8000 in
set_option maxHeartbeats 4000000 in
theorem popp_any (ba : Option Addr) (bc : Nat) (bs : List ByteArray) (c : Cp) (h4 : c.ps.length = 4) (v : Value) (hbs : bs.length ≤ 1000) (hst : c.st.length ≤ 1000) (w : World) (hRB : RowAt 1 scl w ba bs) (hv : SV v c.st w) :
    Calls Tryz.prog 34 #[.agg (prL (.slice ba bs.length bc) (stCs c v)).toArray] w fun e w' => ∃ bv u : Value, e = .returned (.agg (prL bv (stCs c u)).toArray) ∧ OwnR 9 1 scl w' w.heap.size bv bs ∧ OwnR 102 3 frc w' w.heap.size u c.st ∧ Below w.heap.size w w' := by
 have hundP := Tryz.underlying47
 have hszP : (Tryz.prog.info? 47).map (·.size) = some 19 := by kernel_rfl
 obtain ⟨sa, sc, rfl, hsn, hrs⟩ := hv
 have ks := fun W h => pcpS_any ba bc bs W hbs h
 have kf := fun W h => pcpF_any sa sc c.st W hst h
 obtain ⟨nb, hnb⟩ : ∃ nb, bs.length = nb := ⟨_, rfl⟩
 obtain ⟨ns, hns⟩ : ∃ ns, c.st.length = ns := ⟨_, rfl⟩
 rw [hnb] at ks ⊢
 rw [hns] at kf ⊢
 have hXl : (stCs c (.slice sa ns sc)).length = 18 := st_len h4
 have h17 : ∀ y : Value, (prL y (stCs c (.slice sa ns sc)))[17]? = some (.slice sa ns sc) := fun y => st_stk h4
 have hXs : ∀ u : Value, Aside ((stCs c (.slice sa ns sc)).set 16 u = stCs c u) := fun u => st_setStk h4 _ u
 obtain ⟨X, hX⟩ : ∃ X, stCs c (.slice sa ns sc) = X := ⟨_, rfl⟩
 rw [hX] at hXl ⊢
 simp only [hX] at h17 hXs
 clear hX hsn
 replace hnb : Aside _ := hnb
 replace hns : Aside _ := hns
 have f0 := blkl_alloc w (prL (.slice ba nb bc) X).toArray 47
 have g0 := alloc_below w (.cells (prL (.slice ba nb bc) X).toArray 47)
 have f1 := blkl_alloc (w.alloc (.cells (prL (.slice ba nb bc) X).toArray 47)) zPC 47
 have g1 := alloc_below (w.alloc (.cells (prL (.slice ba nb bc) X).toArray 47)) (.cells zPC 47)
 rw [World.size_alloc] at f1
 have hP : BlkL w.heap.size (prL (.slice ba nb bc) X) ((w.alloc (.cells (prL (.slice ba nb bc) X).toArray 47)).alloc (.cells zPC 47)) := stab_blk _ _ _ _ f0 g1
 have hR : BlkL (w.heap.size + 1) (prL nilS (stCs zeroC nilS)) ((w.alloc (.cells (prL (.slice ba nb bc) X).toArray 47)).alloc (.cells zPC 47)) := f1
 have hB := Below.then g0 g1
 clear f0 g0 f1 g1
 go_enter Tryz.func34, Tryz.ntmps34
 go_upto_region 1 with fail
 generalize (w.alloc (.cells (prL (.slice ba nb bc) X).toArray 47)).alloc (.cells zPC 47) = W2 at *
 have hP0 : BlkL w.heap.size (prL (.slice ba nb bc) X) W2.drew := stab_blk _ _ _ _ hP (Below.refl _ _).drew
 have hR0 : BlkL (w.heap.size + 1) (prL nilS (stCs zeroC nilS)) W2.drew := stab_blk _ _ _ _ hR (Below.refl _ _).drew
 have hB0 : Below w.heap.size w W2.drew := hB.drew
 have c00 := (hP0.1 0 _ rfl).1
 have c170 := (hP0.1 17 _ (h17 _)).1
 clear hP hR hB
 refine wp_region_held_drew (S := (fun _ => True)) (by kernel_rfl) (by trivial) ?_
 intro hHeld
 generalize W2.drew = w0 at *
 refine tkA 0 ?_
 refine tkA 3 ?_
 refine tkA 4 ?_
 refine tkR (rs := [1, 5]) ?_
 refine tkC (fun K hK => ?_) ?_
 ·go_simp
  refine hK.out _ _ (trivial) ?_
  clear hHeld hK
  intro hHeld
  (try simp only [Act.put, zsA, zsB, zsC])
  refine tkR (rs := [2, 5]) ?_
  refine tkC (fun K hK => ?_) ?_
  ·go_simp
   go_at_call 29
   refine (ks w0 (hRB.below scl_ok.len hB0)).mono ?_
   rintro e w1 ⟨rfl, hs1, hb1⟩
   have hP1 := stab_blk _ _ _ _ hP0 hb1
   have hR1 := stab_blk _ _ _ _ hR0 hb1
   have hB1 := Below.then hB0 hb1
   have c01 := (hP1.1 0 _ rfl).1
   have c171 := (hP1.1 17 _ (h17 _)).1
   have hl0 : w.heap.size + 1 < w0.heap.size := hR0.2
   refine hK.out _ _ (trivial) ?_
   clear hHeld hK
   intro hHeld
   clear hP0 hR0 c00 c170 hb1
   (try simp only [Act.put, zsA, zsB, zsC])
   refine tkR (rs := [5]) ?_
   refine tkC (fun K hK => ?_) AllReadyH.nil
   go_simp
   refine hK.out _ _ (trivial) ?_
   clear hHeld hK
   intro hHeld
   (try simp only [Act.put, zsA, zsB, zsC])
   refine tkA 7 ?_
   refine tkR (rs := [6]) ?_
   refine tkC (fun K hK => ?_) AllReadyH.nil
   go_simp
   go_at_call 56
   refine (kf w1 (hrs.below frc_len hB1)).mono ?_
   rintro e w2 ⟨rfl, hf2, hb2⟩
   have hP2 := stab_blk _ _ _ _ hP1 hb2
   have hR2 := stab_blk _ _ _ _ hR1 hb2
   have hB2 := Below.then hB1 hb2
   have hs2 := hs1.below hb2
   have hl1 : w.heap.size + 1 < w1.heap.size := hR1.2
   obtain ⟨hq3, ff3⟩ := hP2.1 0 _ rfl
   refine hK.out _ _ (trivial) ?_
   clear hHeld hK
   intro hHeld
   clear hP1 hR1 c01 c171 hB1 hs1 hb2
   (try simp only [Act.put, zsA, zsB, zsC])
   refine tkR (rs := [8]) ?_
   refine tkC (fun K hK => ?_) AllReadyH.nil
   refine step_st rfl _ _ rfl ⟨w.heap.size, 0, none⟩ rfl (.slice (some ⟨w0.heap.size, 0, none⟩) nb nb) rfl (strsP_store _ _ _ _ hq3 ff3 rfl) ?_
   (try simp only [Act.put, zsA, zsB, zsC])
   refine hK.out _ _ (trivial) ?_
   clear hHeld hK
   intro hHeld
   have hP3 : BlkL w.heap.size (prL (.slice (some ⟨w0.heap.size, 0, none⟩) nb nb) X) (w2.setCell ⟨w.heap.size, 0, none⟩ (.slice (some ⟨w0.heap.size, 0, none⟩) nb nb)) := (blk_setS hP2 (i := 0) (by simp) _)
   have hR3 := blk_setO hR2 (g := w.heap.size) (by omega) 0 (.slice (some ⟨w0.heap.size, 0, none⟩) nb nb)
   have hB3 := hB2.setCell (p := ⟨w.heap.size, 0, none⟩) (Nat.le_refl _) (.slice (some ⟨w0.heap.size, 0, none⟩) nb nb)
   have hs3 := hs2.keep (fun k hk => heap_setCell_other w2 ⟨w.heap.size, 0, none⟩ k (.slice (some ⟨w0.heap.size, 0, none⟩) nb nb) (show k ≠ w.heap.size by have := (hs2.lt hk).1; omega))
   have hf3 := hf2.keep (fun k hk => heap_setCell_other w2 ⟨w.heap.size, 0, none⟩ k (.slice (some ⟨w0.heap.size, 0, none⟩) nb nb) (show k ≠ w.heap.size by have := (hf2.lt hk).1; omega))
   obtain ⟨w3, hw3⟩ : ∃ w3, w2.setCell ⟨w.heap.size, 0, none⟩ (.slice (some ⟨w0.heap.size, 0, none⟩) nb nb) = w3 := ⟨_, rfl⟩
   rw [hw3] at hP3 hR3 hB3 hs3 hf3 ⊢
   obtain ⟨hq4, ff4⟩ := hP3.1 17 _ (h17 _)
   clear hw3 hP2 hR2 hB2 hs2 hf2 hq3 ff3
   (try simp only [Act.put, zsA, zsB, zsC])
   refine tkA 9 ?_
   refine tkA 10 ?_
   refine tkR (rs := [11]) ?_
   refine tkC (fun K hK => ?_) AllReadyH.nil
   refine step_st rfl _ _ rfl ⟨w.heap.size, 17, none⟩ rfl (.slice (some ⟨w1.heap.size, 0, none⟩) ns ns) rfl (crsP_store _ _ _ _ hq4 ff4 rfl) ?_
   (try simp only [Act.put, zsA, zsB, zsC])
   refine hK.out _ _ (trivial) ?_
   clear hHeld hK
   intro hHeld
   have hP4 : BlkL w.heap.size (prL (.slice (some ⟨w0.heap.size, 0, none⟩) nb nb) (X.set 16 (.slice (some ⟨w1.heap.size, 0, none⟩) ns ns))) (w3.setCell ⟨w.heap.size, 17, none⟩ (.slice (some ⟨w1.heap.size, 0, none⟩) ns ns)) := blk_setS hP3 (i := 17) (by simp [hXl]) _
   rw [(hXs _).out] at hP4
   have hR4 := blk_setO hR3 (g := w.heap.size) (by omega) 17 (.slice (some ⟨w1.heap.size, 0, none⟩) ns ns)
   have hB4 := hB3.setCell (p := ⟨w.heap.size, 17, none⟩) (Nat.le_refl _) (.slice (some ⟨w1.heap.size, 0, none⟩) ns ns)
   have hs4 := hs3.keep (fun k hk => heap_setCell_other w3 ⟨w.heap.size, 17, none⟩ k (.slice (some ⟨w1.heap.size, 0, none⟩) ns ns) (show k ≠ w.heap.size by have := (hs3.lt hk).1; omega))
   have hf4 := hf3.keep (fun k hk => heap_setCell_other w3 ⟨w.heap.size, 17, none⟩ k (.slice (some ⟨w1.heap.size, 0, none⟩) ns ns) (show k ≠ w.heap.size by have := (hf3.lt hk).1; omega))
   obtain ⟨w4, hw4⟩ : ∃ w4, w3.setCell ⟨w.heap.size, 17, none⟩ (.slice (some ⟨w1.heap.size, 0, none⟩) ns ns) = w4 := ⟨_, rfl⟩
   rw [hw4] at hP4 hR4 hB4 hs4 hf4 ⊢
   clear hw4 hP3 hR3 hB3 hs3 hf3 hq4 ff4
   obtain ⟨Z, hZ⟩ : ∃ Z, stCs c (.slice (some ⟨w1.heap.size, 0, none⟩) ns ns) = Z := ⟨_, rfl⟩
   have hZl : Z.length = 18 := by rw [← hZ]; exact st_len h4
   have hZo : ∀ u ∈ Z, u.oneCell' = true := by rw [← hZ]; exact st_one _ _ rfl
   rw [hZ] at hP4
   replace hZ : Aside _ := hZ
   have hr4 := hP4.range
   have hszZ : (Tryz.prog.info? 47).map (·.size) = some (prL (.slice (some ⟨w0.heap.size, 0, none⟩) nb nb) Z).length := by rw [hszP]; simp [hZl]
   have honeZ : ∀ x ∈ prL (.slice (some ⟨w0.heap.size, 0, none⟩) nb nb) Z, x.oneCell' = true := fun x hx => (List.mem_cons.1 hx).elim (fun q => by rw [q]; rfl) (fun q => hZo x q)
   obtain ⟨W5, hW5, hth5, hk5, hb5⟩ := put_any hR4 (ds := prL (.slice (some ⟨w0.heap.size, 0, none⟩) nb nb) Z) (by simp [hZl, st_len (c := zeroC) (v := nilS) rfl]) (by simp)
   have hr5 := hk5.range
   have hB5 := hb5 _ _ (Nat.le_succ _) hB4
   have hs5 : OwnR 9 1 scl W5 w.heap.size (.slice (some ⟨w0.heap.size, 0, none⟩) nb nb) bs := by rw [← hW5]; exact (hs4.setAll (fun q => by have := (hs4.lt q).1; omega) _).lower (by omega)
   have hf5 : OwnR 102 3 frc W5 w.heap.size (.slice (some ⟨w1.heap.size, 0, none⟩) ns ns) c.st := by rw [← hW5]; exact (hf4.setAll (fun q => by have := (hf4.lt q).1; omega) _).lower (by omega)
   clear hP4 hR4 hB4 hs4 hf4 hb5 hk5
   (try simp only [Act.put, zsA, zsB, zsC])
   refine wpAnyH_done (by kernel_rfl) ?_ _
   clear hHeld
   go_wp2_with (first | (refine wpList_load_row rfl _ rfl w.heap.size rfl (prL (.slice (some ⟨w0.heap.size, 0, none⟩) nb nb) Z) hr4 hundP rfl hszZ ?_) | (refine wpList_store_row rfl _ _ rfl (w.heap.size + 1) rfl (prL (.slice (some ⟨w0.heap.size, 0, none⟩) nb nb) Z) rfl hth5 hszZ honeZ hW5 ?_) | fail)
   refine bodyPost_ret (v := .agg (prL (.slice (some ⟨w0.heap.size, 0, none⟩) nb nb) Z).toArray) (results_row1 rfl _ _ (w.heap.size + 1) rfl (prL (.slice (some ⟨w0.heap.size, 0, none⟩) nb nb) Z) hr5 hundP rfl hszZ) rfl ?_
   exact ⟨_, _, by rw [hZ.out], by rw [← hnb.out] at hs5; rw [← hnb.out]; exact hs5, hf5, hB5⟩
  refine tkC (fun K hK => ?_) AllReadyH.nil
  go_simp
  refine hK.out _ _ (trivial) ?_
  clear hHeld hK
  intro hHeld
  (try simp only [Act.put, zsA, zsB, zsC])
  refine tkR (rs := [2]) ?_
  refine tkC (fun K hK => ?_) AllReadyH.nil
  go_simp
  go_at_call 29
  refine (ks w0 (hRB.below scl_ok.len hB0)).mono ?_
  rintro e w1 ⟨rfl, hs1, hb1⟩
  have hP1 := stab_blk _ _ _ _ hP0 hb1
  have hR1 := stab_blk _ _ _ _ hR0 hb1
  have hB1 := Below.then hB0 hb1
  have c01 := (hP1.1 0 _ rfl).1
  have c171 := (hP1.1 17 _ (h17 _)).1
  have hl0 : w.heap.size + 1 < w0.heap.size := hR0.2
  refine hK.out _ _ (trivial) ?_
  clear hHeld hK
  intro hHeld
  clear hP0 hR0 c00 c170 hb1
  (try simp only [Act.put, zsA, zsB, zsC])
  refine tkA 7 ?_
  refine tkR (rs := [6]) ?_
  refine tkC (fun K hK => ?_) AllReadyH.nil
  go_simp
  go_at_call 56
  refine (kf w1 (hrs.below frc_len hB1)).mono ?_
  rintro e w2 ⟨rfl, hf2, hb2⟩
  have hP2 := stab_blk _ _ _ _ hP1 hb2
  have hR2 := stab_blk _ _ _ _ hR1 hb2
  have hB2 := Below.then hB1 hb2
  have hs2 := hs1.below hb2
  have hl1 : w.heap.size + 1 < w1.heap.size := hR1.2
  obtain ⟨hq3, ff3⟩ := hP2.1 0 _ rfl
  refine hK.out _ _ (trivial) ?_
  clear hHeld hK
  intro hHeld
  clear hP1 hR1 c01 c171 hB1 hs1 hb2
  (try simp only [Act.put, zsA, zsB, zsC])
  refine tkR (rs := [8]) ?_
  refine tkC (fun K hK => ?_) AllReadyH.nil
  refine step_st rfl _ _ rfl ⟨w.heap.size, 0, none⟩ rfl (.slice (some ⟨w0.heap.size, 0, none⟩) nb nb) rfl (strsP_store _ _ _ _ hq3 ff3 rfl) ?_
  (try simp only [Act.put, zsA, zsB, zsC])
  refine hK.out _ _ (trivial) ?_
  clear hHeld hK
  intro hHeld
  have hP3 : BlkL w.heap.size (prL (.slice (some ⟨w0.heap.size, 0, none⟩) nb nb) X) (w2.setCell ⟨w.heap.size, 0, none⟩ (.slice (some ⟨w0.heap.size, 0, none⟩) nb nb)) := (blk_setS hP2 (i := 0) (by simp) _)
  have hR3 := blk_setO hR2 (g := w.heap.size) (by omega) 0 (.slice (some ⟨w0.heap.size, 0, none⟩) nb nb)
  have hB3 := hB2.setCell (p := ⟨w.heap.size, 0, none⟩) (Nat.le_refl _) (.slice (some ⟨w0.heap.size, 0, none⟩) nb nb)
  have hs3 := hs2.keep (fun k hk => heap_setCell_other w2 ⟨w.heap.size, 0, none⟩ k (.slice (some ⟨w0.heap.size, 0, none⟩) nb nb) (show k ≠ w.heap.size by have := (hs2.lt hk).1; omega))
  have hf3 := hf2.keep (fun k hk => heap_setCell_other w2 ⟨w.heap.size, 0, none⟩ k (.slice (some ⟨w0.heap.size, 0, none⟩) nb nb) (show k ≠ w.heap.size by have := (hf2.lt hk).1; omega))
  obtain ⟨w3, hw3⟩ : ∃ w3, w2.setCell ⟨w.heap.size, 0, none⟩ (.slice (some ⟨w0.heap.size, 0, none⟩) nb nb) = w3 := ⟨_, rfl⟩
  rw [hw3] at hP3 hR3 hB3 hs3 hf3 ⊢
  obtain ⟨hq4, ff4⟩ := hP3.1 17 _ (h17 _)
  clear hw3 hP2 hR2 hB2 hs2 hf2 hq3 ff3
  (try simp only [Act.put, zsA, zsB, zsC])
  refine tkA 9 ?_
  refine tkA 10 ?_
  refine tkR (rs := [11]) ?_
  refine tkC (fun K hK => ?_) AllReadyH.nil
  refine step_st rfl _ _ rfl ⟨w.heap.size, 17, none⟩ rfl (.slice (some ⟨w1.heap.size, 0, none⟩) ns ns) rfl (crsP_store _ _ _ _ hq4 ff4 rfl) ?_
  (try simp only [Act.put, zsA, zsB, zsC])
  refine hK.out _ _ (trivial) ?_
  clear hHeld hK
  intro hHeld
  have hP4 : BlkL w.heap.size (prL (.slice (some ⟨w0.heap.size, 0, none⟩) nb nb) (X.set 16 (.slice (some ⟨w1.heap.size, 0, none⟩) ns ns))) (w3.setCell ⟨w.heap.size, 17, none⟩ (.slice (some ⟨w1.heap.size, 0, none⟩) ns ns)) := blk_setS hP3 (i := 17) (by simp [hXl]) _
  rw [(hXs _).out] at hP4
  have hR4 := blk_setO hR3 (g := w.heap.size) (by omega) 17 (.slice (some ⟨w1.heap.size, 0, none⟩) ns ns)
  have hB4 := hB3.setCell (p := ⟨w.heap.size, 17, none⟩) (Nat.le_refl _) (.slice (some ⟨w1.heap.size, 0, none⟩) ns ns)
  have hs4 := hs3.keep (fun k hk => heap_setCell_other w3 ⟨w.heap.size, 17, none⟩ k (.slice (some ⟨w1.heap.size, 0, none⟩) ns ns) (show k ≠ w.heap.size by have := (hs3.lt hk).1; omega))
  have hf4 := hf3.keep (fun k hk => heap_setCell_other w3 ⟨w.heap.size, 17, none⟩ k (.slice (some ⟨w1.heap.size, 0, none⟩) ns ns) (show k ≠ w.heap.size by have := (hf3.lt hk).1; omega))
  obtain ⟨w4, hw4⟩ : ∃ w4, w3.setCell ⟨w.heap.size, 17, none⟩ (.slice (some ⟨w1.heap.size, 0, none⟩) ns ns) = w4 := ⟨_, rfl⟩
  rw [hw4] at hP4 hR4 hB4 hs4 hf4 ⊢
  clear hw4 hP3 hR3 hB3 hs3 hf3 hq4 ff4
  obtain ⟨Z, hZ⟩ : ∃ Z, stCs c (.slice (some ⟨w1.heap.size, 0, none⟩) ns ns) = Z := ⟨_, rfl⟩
  have hZl : Z.length = 18 := by rw [← hZ]; exact st_len h4
  have hZo : ∀ u ∈ Z, u.oneCell' = true := by rw [← hZ]; exact st_one _ _ rfl
  rw [hZ] at hP4
  replace hZ : Aside _ := hZ
  have hr4 := hP4.range
  have hszZ : (Tryz.prog.info? 47).map (·.size) = some (prL (.slice (some ⟨w0.heap.size, 0, none⟩) nb nb) Z).length := by rw [hszP]; simp [hZl]
  have honeZ : ∀ x ∈ prL (.slice (some ⟨w0.heap.size, 0, none⟩) nb nb) Z, x.oneCell' = true := fun x hx => (List.mem_cons.1 hx).elim (fun q => by rw [q]; rfl) (fun q => hZo x q)
  obtain ⟨W5, hW5, hth5, hk5, hb5⟩ := put_any hR4 (ds := prL (.slice (some ⟨w0.heap.size, 0, none⟩) nb nb) Z) (by simp [hZl, st_len (c := zeroC) (v := nilS) rfl]) (by simp)
  have hr5 := hk5.range
  have hB5 := hb5 _ _ (Nat.le_succ _) hB4
  have hs5 : OwnR 9 1 scl W5 w.heap.size (.slice (some ⟨w0.heap.size, 0, none⟩) nb nb) bs := by rw [← hW5]; exact (hs4.setAll (fun q => by have := (hs4.lt q).1; omega) _).lower (by omega)
  have hf5 : OwnR 102 3 frc W5 w.heap.size (.slice (some ⟨w1.heap.size, 0, none⟩) ns ns) c.st := by rw [← hW5]; exact (hf4.setAll (fun q => by have := (hf4.lt q).1; omega) _).lower (by omega)
  clear hP4 hR4 hB4 hs4 hf4 hb5 hk5
  (try simp only [Act.put, zsA, zsB, zsC])
  refine wpAnyH_done (by kernel_rfl) ?_ _
  clear hHeld
  go_wp2_with (first | (refine wpList_load_row rfl _ rfl w.heap.size rfl (prL (.slice (some ⟨w0.heap.size, 0, none⟩) nb nb) Z) hr4 hundP rfl hszZ ?_) | (refine wpList_store_row rfl _ _ rfl (w.heap.size + 1) rfl (prL (.slice (some ⟨w0.heap.size, 0, none⟩) nb nb) Z) rfl hth5 hszZ honeZ hW5 ?_) | fail)
  refine bodyPost_ret (v := .agg (prL (.slice (some ⟨w0.heap.size, 0, none⟩) nb nb) Z).toArray) (results_row1 rfl _ _ (w.heap.size + 1) rfl (prL (.slice (some ⟨w0.heap.size, 0, none⟩) nb nb) Z) hr5 hundP rfl hszZ) rfl ?_
  exact ⟨_, _, by rw [hZ.out], by rw [← hnb.out] at hs5; rw [← hnb.out]; exact hs5, hf5, hB5⟩
 refine tkC (fun K hK => ?_) AllReadyH.nil
 go_simp
 refine hK.out _ _ (trivial) ?_
 clear hHeld hK
 intro hHeld
 (try simp only [Act.put, zsA, zsB, zsC])
 refine tkR (rs := [1]) ?_
 refine tkC (fun K hK => ?_) AllReadyH.nil
 go_simp
 refine hK.out _ _ (trivial) ?_
 clear hHeld hK
 intro hHeld
 (try simp only [Act.put, zsA, zsB, zsC])
 refine tkR (rs := [2]) ?_
 refine tkC (fun K hK => ?_) AllReadyH.nil
 go_simp
 go_at_call 29
 refine (ks w0 (hRB.below scl_ok.len hB0)).mono ?_
 rintro e w1 ⟨rfl, hs1, hb1⟩
 have hP1 := stab_blk _ _ _ _ hP0 hb1
 have hR1 := stab_blk _ _ _ _ hR0 hb1
 have hB1 := Below.then hB0 hb1
 have c01 := (hP1.1 0 _ rfl).1
 have c171 := (hP1.1 17 _ (h17 _)).1
 have hl0 : w.heap.size + 1 < w0.heap.size := hR0.2
 refine hK.out _ _ (trivial) ?_
 clear hHeld hK
 intro hHeld
 clear hP0 hR0 c00 c170 hb1
 (try simp only [Act.put, zsA, zsB, zsC])
 refine tkA 7 ?_
 refine tkR (rs := [6]) ?_
 refine tkC (fun K hK => ?_) AllReadyH.nil
 go_simp
 go_at_call 56
 refine (kf w1 (hrs.below frc_len hB1)).mono ?_
 rintro e w2 ⟨rfl, hf2, hb2⟩
 have hP2 := stab_blk _ _ _ _ hP1 hb2
 have hR2 := stab_blk _ _ _ _ hR1 hb2
 have hB2 := Below.then hB1 hb2
 have hs2 := hs1.below hb2
 have hl1 : w.heap.size + 1 < w1.heap.size := hR1.2
 obtain ⟨hq3, ff3⟩ := hP2.1 0 _ rfl
 refine hK.out _ _ (trivial) ?_
 clear hHeld hK
 intro hHeld
 clear hP1 hR1 c01 c171 hB1 hs1 hb2
 (try simp only [Act.put, zsA, zsB, zsC])
 refine tkR (rs := [8]) ?_
 refine tkC (fun K hK => ?_) AllReadyH.nil
 refine step_st rfl _ _ rfl ⟨w.heap.size, 0, none⟩ rfl (.slice (some ⟨w0.heap.size, 0, none⟩) nb nb) rfl (strsP_store _ _ _ _ hq3 ff3 rfl) ?_
 (try simp only [Act.put, zsA, zsB, zsC])
 refine hK.out _ _ (trivial) ?_
 clear hHeld hK
 intro hHeld
 have hP3 : BlkL w.heap.size (prL (.slice (some ⟨w0.heap.size, 0, none⟩) nb nb) X) (w2.setCell ⟨w.heap.size, 0, none⟩ (.slice (some ⟨w0.heap.size, 0, none⟩) nb nb)) := (blk_setS hP2 (i := 0) (by simp) _)
 have hR3 := blk_setO hR2 (g := w.heap.size) (by omega) 0 (.slice (some ⟨w0.heap.size, 0, none⟩) nb nb)
 have hB3 := hB2.setCell (p := ⟨w.heap.size, 0, none⟩) (Nat.le_refl _) (.slice (some ⟨w0.heap.size, 0, none⟩) nb nb)
 have hs3 := hs2.keep (fun k hk => heap_setCell_other w2 ⟨w.heap.size, 0, none⟩ k (.slice (some ⟨w0.heap.size, 0, none⟩) nb nb) (show k ≠ w.heap.size by have := (hs2.lt hk).1; omega))
 have hf3 := hf2.keep (fun k hk => heap_setCell_other w2 ⟨w.heap.size, 0, none⟩ k (.slice (some ⟨w0.heap.size, 0, none⟩) nb nb) (show k ≠ w.heap.size by have := (hf2.lt hk).1; omega))
 obtain ⟨w3, hw3⟩ : ∃ w3, w2.setCell ⟨w.heap.size, 0, none⟩ (.slice (some ⟨w0.heap.size, 0, none⟩) nb nb) = w3 := ⟨_, rfl⟩
 rw [hw3] at hP3 hR3 hB3 hs3 hf3 ⊢
 obtain ⟨hq4, ff4⟩ := hP3.1 17 _ (h17 _)
 clear hw3 hP2 hR2 hB2 hs2 hf2 hq3 ff3
 (try simp only [Act.put, zsA, zsB, zsC])
 refine tkA 9 ?_
 refine tkA 10 ?_
 refine tkR (rs := [11]) ?_
 refine tkC (fun K hK => ?_) AllReadyH.nil
 refine step_st rfl _ _ rfl ⟨w.heap.size, 17, none⟩ rfl (.slice (some ⟨w1.heap.size, 0, none⟩) ns ns) rfl (crsP_store _ _ _ _ hq4 ff4 rfl) ?_
 (try simp only [Act.put, zsA, zsB, zsC])
 refine hK.out _ _ (trivial) ?_
 clear hHeld hK
 intro hHeld
 have hP4 : BlkL w.heap.size (prL (.slice (some ⟨w0.heap.size, 0, none⟩) nb nb) (X.set 16 (.slice (some ⟨w1.heap.size, 0, none⟩) ns ns))) (w3.setCell ⟨w.heap.size, 17, none⟩ (.slice (some ⟨w1.heap.size, 0, none⟩) ns ns)) := blk_setS hP3 (i := 17) (by simp [hXl]) _
 rw [(hXs _).out] at hP4
 have hR4 := blk_setO hR3 (g := w.heap.size) (by omega) 17 (.slice (some ⟨w1.heap.size, 0, none⟩) ns ns)
 have hB4 := hB3.setCell (p := ⟨w.heap.size, 17, none⟩) (Nat.le_refl _) (.slice (some ⟨w1.heap.size, 0, none⟩) ns ns)
 have hs4 := hs3.keep (fun k hk => heap_setCell_other w3 ⟨w.heap.size, 17, none⟩ k (.slice (some ⟨w1.heap.size, 0, none⟩) ns ns) (show k ≠ w.heap.size by have := (hs3.lt hk).1; omega))
 have hf4 := hf3.keep (fun k hk => heap_setCell_other w3 ⟨w.heap.size, 17, none⟩ k (.slice (some ⟨w1.heap.size, 0, none⟩) ns ns) (show k ≠ w.heap.size by have := (hf3.lt hk).1; omega))
 obtain ⟨w4, hw4⟩ : ∃ w4, w3.setCell ⟨w.heap.size, 17, none⟩ (.slice (some ⟨w1.heap.size, 0, none⟩) ns ns) = w4 := ⟨_, rfl⟩
 rw [hw4] at hP4 hR4 hB4 hs4 hf4 ⊢
 clear hw4 hP3 hR3 hB3 hs3 hf3 hq4 ff4
 obtain ⟨Z, hZ⟩ : ∃ Z, stCs c (.slice (some ⟨w1.heap.size, 0, none⟩) ns ns) = Z := ⟨_, rfl⟩
 have hZl : Z.length = 18 := by rw [← hZ]; exact st_len h4
 have hZo : ∀ u ∈ Z, u.oneCell' = true := by rw [← hZ]; exact st_one _ _ rfl
 rw [hZ] at hP4
 replace hZ : Aside _ := hZ
 have hr4 := hP4.range
 have hszZ : (Tryz.prog.info? 47).map (·.size) = some (prL (.slice (some ⟨w0.heap.size, 0, none⟩) nb nb) Z).length := by rw [hszP]; simp [hZl]
 have honeZ : ∀ x ∈ prL (.slice (some ⟨w0.heap.size, 0, none⟩) nb nb) Z, x.oneCell' = true := fun x hx => (List.mem_cons.1 hx).elim (fun q => by rw [q]; rfl) (fun q => hZo x q)
 obtain ⟨W5, hW5, hth5, hk5, hb5⟩ := put_any hR4 (ds := prL (.slice (some ⟨w0.heap.size, 0, none⟩) nb nb) Z) (by simp [hZl, st_len (c := zeroC) (v := nilS) rfl]) (by simp)
 have hr5 := hk5.range
 have hB5 := hb5 _ _ (Nat.le_succ _) hB4
 have hs5 : OwnR 9 1 scl W5 w.heap.size (.slice (some ⟨w0.heap.size, 0, none⟩) nb nb) bs := by rw [← hW5]; exact (hs4.setAll (fun q => by have := (hs4.lt q).1; omega) _).lower (by omega)
 have hf5 : OwnR 102 3 frc W5 w.heap.size (.slice (some ⟨w1.heap.size, 0, none⟩) ns ns) c.st := by rw [← hW5]; exact (hf4.setAll (fun q => by have := (hf4.lt q).1; omega) _).lower (by omega)
 clear hP4 hR4 hB4 hs4 hf4 hb5 hk5
 (try simp only [Act.put, zsA, zsB, zsC])
 refine wpAnyH_done (by kernel_rfl) ?_ _
 clear hHeld
 go_wp2_with (first | (refine wpList_load_row rfl _ rfl w.heap.size rfl (prL (.slice (some ⟨w0.heap.size, 0, none⟩) nb nb) Z) hr4 hundP rfl hszZ ?_) | (refine wpList_store_row rfl _ _ rfl (w.heap.size + 1) rfl (prL (.slice (some ⟨w0.heap.size, 0, none⟩) nb nb) Z) rfl hth5 hszZ honeZ hW5 ?_) | fail)
 refine bodyPost_ret (v := .agg (prL (.slice (some ⟨w0.heap.size, 0, none⟩) nb nb) Z).toArray) (results_row1 rfl _ _ (w.heap.size + 1) rfl (prL (.slice (some ⟨w0.heap.size, 0, none⟩) nb nb) Z) hr5 hundP rfl hszZ) rfl ?_
 exact ⟨_, _, by rw [hZ.out], by rw [← hnb.out] at hs5; rw [← hnb.out]; exact hs5, hf5, hB5⟩
end Go.Proofs.YtidihdiffiffmaaGreatDoor
namespace Go.Proofs.YtidihdiffiffmaaGreatDoor
open Go.RowKit
set_option maxRecDepth 8000
set_option linter.unusedSimpArgs false
set_option linter.unusedVariables false
theorem wpAnyH_strong {P : Program} {ops : Array Oper} {Q : Exit → Act → World → Prop} {md : Region.Mode} {S : World → Prop} (S' : World → Prop) (hs : ∀ w, S' w → S w) : ∀ {fuel : Nat} {listed : Array Bool} {a : Act} {w : World}, wpAnyH P md ops Q S' fuel listed a w → wpAnyH P md ops Q S fuel listed a w
 | 0, _, _, _, h => h
 | fuel + 1, _, _, _, h => ⟨h.1, fun i hi => wpOp_mono (fun a' w' h' => ⟨hs _ h'.1, wpAnyH_strong S' hs h'.2⟩) (h.2 i hi)⟩
theorem own_oneP {α : Type} {e t : TypeId} {sz base : Nat} {f : α → List Value} (hE : ElemOk e t sz f) (w : World) (hb : base ≤ w.heap.size) (x : α) : OwnR e sz f (w.alloc (.cells (f x).toArray e)) base (.slice (some ⟨w.heap.size, 0, none⟩) 1 1) [x] := by
 refine ⟨by simp [hE.len], .inr ⟨w.heap.size, 1, _, rfl, hb, heap_alloc_new w _, Nat.le_refl _, by simp only [maxLen]; omega, by simp [hE.len], ?_⟩⟩
 simp only [List.flatMap_cons, List.flatMap_nil, List.append_nil, List.length_cons, List.length_nil]
 rw [List.take_of_length_le]
 simp [hE.len]
structure PPg where
 is : List Ins
 a : Option Addr
 c : Nat
def pgcl (x : PPg) : List Value := [.slice x.a x.is.length x.c]
theorem pg_len1 (x : PPg) : (pgcl x).length = 1 := rfl
def PPg.At (x : PPg) (W : World) : Prop := RowAt 3 ins3 W x.a x.is ∧ x.is.length ≤ 9223372036854775807
def rgcl (x : Rg) : List Value := [.int .i64 x.a, .int .i64 x.b, .int .i64 x.c, .int .i64 x.g]
theorem rg_len (x : Rg) : (rgcl x).length = 4 := rfl
theorem rg_one (x : Rg) : ∀ u ∈ rgcl x, u.oneCell' = true := fun u hu => by
 simp [rgcl] at hu
 rcases hu with rfl | rfl | rfl | rfl <;> rfl
theorem icell_len (x : Int) : (icell x).length = 1 := rfl
theorem intP_load (w : World) (y : Addr) (v : Value) (h : w.cell? y = some v) : (Instr.loadAt 3 (.pointer (some y))).run Tryz.prog w = .ok v w := by
 have h1 := Tryz.underlying3
 go_simp
theorem intP_store (w : World) (y : Addr) (u : Value) (v : Int) (hc : w.cell? y = some u) (hf : w.frozen? y = false) : (Instr.storeAt 3 (.pointer (some y)) (.int .i64 v)).run Tryz.prog w = .ok () (w.setCell y (.int .i64 v)) := by
 have h1 := Tryz.underlying3
 go_simp
theorem nd_build (p : ByteArray) (t : Lab) (a a2 : Option Addr) (n c n2 c2 : Nat) (w : World) : (Instr.build 36 #[(0, .string p), (2, .agg (lab4 t).toArray), (3, .slice a n c), (4, .agg #[.int .i64 4, .int .i64 4, .int .i64 4, .int .i64 0]), (5, .slice a2 n2 c2)]).run Tryz.prog w = .ok (.agg #[.string p, .bool false, .int .i64 t.s, .int .i64 t.c, .int .i64 t.i, .int .i64 t.k, .slice a n c, .int .i64 4, .int .i64 4, .int .i64 4, .int .i64 0, .slice a2 n2 c2, .int .i64 0, .int .i64 0, .int .i64 0, .int .i64 0]) w := by
 have h1 := Tryz.underlying36
 have h2 := Tryz.underlying30
 have h3 := Tryz.underlying33
 unfold lab4
 go_simp
abbrev ZNP : Array Value := #[.string ⟨#[]⟩, .bool false, .int .i64 0, .int .i64 0, .int .i64 0, .int .i64 0, .slice none 0 0, .int .i64 0, .int .i64 0, .int .i64 0, .int .i64 0, .slice none 0 0, .int .i64 0, .int .i64 0, .int .i64 0, .int .i64 0]
theorem ChrAt.kept {W W' : World} {pb k : Nat} (h : ChrAt W pb k) (hb : W'.heap[pb]? = W.heap[pb]?) (hs : W.heap.size ≤ W'.heap.size) : ChrAt W' pb k := ⟨Nat.lt_of_lt_of_le h.lt hs, (World.cell?_of_block (a := ⟨pb, 0, none⟩) hb).trans h.cell, h.hk⟩
theorem chr_ne {W : World} {gC gN k : Nat} (h : ChrAt W gC k) (hz : BlkL gN zeroP.cs W) (q : gC = gN) : False := by
 have h1 := (hz.1 0 _ rfl).1
 rw [← q, h.cell] at h1
 cases h1
theorem own_at {W : World} {B : Nat} {x : PN} (h1 : OwnR 119 2 gcl W B x.av x.n.acl) (h2 : OwnR 2 1 wcl W B x.wv x.n.words) : x.At W := by
 obtain ⟨a1, c1, e1, -, -, r1⟩ := h1.slice gr_okT.len
 obtain ⟨a2, c2, e2, -, -, r2⟩ := h2.slice wd_okC.len
 unfold PN.av at e1
 unfold PN.wv at e2
 injection e1 with q1 q2 q3
 injection e2 with q4 q5 q6
 refine ⟨?_, ?_⟩
 ·rw [q1]; exact row_grs r1
 ·rw [q4]; exact row_wrds r2
theorem put_rowN {W W' : World} {a a' : Option Addr} {c B : Nat} {l : List PN} {x : PN} (ho : OwnN W' B (.slice a' (putP l x).length c) (putP l x)) (hr : RowN W a l) (hx : x.At W) (hb : Below W.heap.size W W') : RowN W' a' (putP l x) := by
 obtain ⟨a1, c1, e1, -, -, r1⟩ := ho.slice pn_len
 injection e1 with q1 q2 q3
 refine ⟨by rw [q1]; exact r1, fun y hy => ?_⟩
 rcases put_sub hy with rfl | hy
 ·exact hx.below hb
 ·exact (hr.p y hy).below hb
structure PX (wr : World) (nd : Nat) (d : PN) (yp : Addr) (i : Nat) (pp : PPg) (W : World) : Prop where
 nd : BlkL nd d.cs W
 pr : CellsAt W (yp.add i) (pgcl pp)
theorem PX.then {wr : World} {nd : Nat} {d : PN} {yp : Addr} {i : Nat} {pp : PPg} {W W' : World} (h : PX wr nd d yp i pp W) (k : Below W.heap.size W W') : PX wr nd d yp i pp W' := ⟨stab_blk _ _ _ _ h.nd k, h.pr.below k⟩
theorem PX.lab {wr : World} {nd : Nat} {d : PN} {yp : Addr} {i : Nat} {pp : PPg} {W : World} (h : PX wr nd d yp i pp W) : W.rangeAt nd 2 (lab4 d.n.label) := fun j v hv => by
 have hj : j < 4 := (List.getElem?_eq_some_iff.1 hv).1
 have h1 := h.nd.1 (2 + j)
 match j, hj with
 | 0, _ => exact (h1 v hv).1
 | 1, _ => exact (h1 v hv).1
 | 2, _ => exact (h1 v hv).1
 | 3, _ => exact (h1 v hv).1
def PutR (R : List Nod) (w : World) (e : Ending) (w' : World) : Prop := ∃ (l' : List PN) (a' : Option Addr) (c' : Nat), e = .returned (.slice a' l'.length c') ∧ RowN w' a' l' ∧ namesP l' = R ∧ Below w.heap.size w w'
set_option maxRecDepth 8000 in
set_option maxHeartbeats 16000000 in
theorem pput_any (j : Nat) (hj : j < 2) (a : Option Addr) (cap : Nat) (l : List PN) (pa : Option Addr) (pc : Nat) (ps : List PPg) (ma : Option Addr) (mc : Nat) (ms : List Int) (ra : Option Addr) (rc : Nat) (rs : List Rg) (hl : l.length ≤ 1000) (w : World) (h : RowN w a l) (hps : RowAt 1 pgcl w pa ps) (hpA : ∀ x ∈ ps, x.At w) (hms : RowAt 1 icell w ma ms) (hrsR : RowAt 4 rgcl w ra rs) :
    Calls Tryz.prog 24 #[.slice a l.length cap, .string (dirS j), .slice pa ps.length pc, .slice ma ms.length mc, .slice ra rs.length rc] w (PutR (putD (namesP l) j (ps.map (·.is)) ms rs) w) := by
 have hundN := Tryz.underlying36
 have hundL := Tryz.underlying30
 have hundG := Tryz.underlying92
 have hundR := Tryz.underlying33
 have hszN : (Tryz.prog.info? 36).map (·.size) = some 16 := by kernel_rfl
 have kf := rfindT_any a cap l (dirS j) (by omega) w h
 have hfn := find_names l (dirS j)
 obtain ⟨n, hn⟩ : ∃ n, l.length = n := ⟨_, rfl⟩
 obtain ⟨np, hnp⟩ : ∃ n, ps.length = n := ⟨_, rfl⟩
 obtain ⟨nm, hnm⟩ : ∃ n, ms.length = n := ⟨_, rfl⟩
 obtain ⟨nr, hnr⟩ : ∃ n, rs.length = n := ⟨_, rfl⟩
 rw [hn] at kf hl ⊢
 rw [hnp, hnm, hnr]
 replace hn : Aside (l.length = n) := hn
 replace hnp : Aside (ps.length = np) := hnp
 replace hnm : Aside (ms.length = nm) := hnm
 replace hnr : Aside (rs.length = nr) := hnr
 obtain ⟨R, hR⟩ : ∃ R, putD (namesP l) j (ps.map (·.is)) ms rs = R := ⟨_, rfl⟩
 rw [hR]
 unfold putD at hR
 rw [hfn] at hR
 obtain ⟨o, ho⟩ : ∃ o, findP l (dirS j) = o := ⟨_, rfl⟩
 rw [ho] at kf hR
 replace hR : Aside _ := hR
 obtain ⟨D, hD⟩ : ∃ D, dirS j = D := ⟨_, rfl⟩
 rw [hD] at kf ⊢
 replace hD : Aside (dirS j = D) := hD
 clear ho hfn
 obtain ⟨d, hd⟩ : ∃ d, o.getD zeroP = d := ⟨_, rfl⟩
 have hfc : foundCs o = d.cs := by unfold foundCs; rw [hd]
 rw [hfc] at kf
 clear hfc
 replace hd : Aside _ := hd
 go_enter Tryz.func24, Tryz.ntmps24
 go_wp2_with fail
 refine kf.mono ?_
 rintro e W1 ⟨rfl, hb1⟩
 have hszd : (Tryz.prog.info? 36).map (·.size) = some d.cs.length := by rw [pn_len]; exact hszN
 have hone := pn_one d
 obtain ⟨W2, hW2, hth2, hnd, hb2⟩ := put_new W1 ZNP 36 d.cs (by rw [pn_len]; rfl) (by rw [pn_len]; decide)
 have hB2 := Below.then hb1 hb2
 have hdir : W2.cell? ⟨W1.heap.size, 1, none⟩ = some (.bool d.n.dir) := (hnd.1 1 _ rfl).1
 clear kf hb1 hb2
 go_upto_region 2 with (first | (refine wpList_store_row rfl _ _ rfl W1.heap.size rfl d.cs rfl hth2 hszd hone hW2 ?_) | fail)
 clear hth2 hW2
 generalize W1.heap.size = nd at *
 cases o with
 | none =>
  go_wp2_with fail
  go_ret
  exact ⟨l, a, cap, by rw [hn.out]; rfl, h.below hB2, hR.out, hB2⟩
 | some d1 =>
  obtain rfl : d1 = d := hd.out
  clear hd
  simp only [Option.isSome_some]
  cases hdd : d1.n.dir
  ·rw [hdd] at hdir
   go_wp2_with fail
   go_ret
   exact ⟨l, a, cap, by rw [hn.out]; rfl, h.below hB2, by rw [← hR.out]; show namesP l = (if d1.n.dir = true then _ else _); rw [if_neg (by rw [hdd]; decide)], hB2⟩
  rw [hdd] at hdir
  have kw := fun (k : Int) W => w17_any k 8 (by decide) (by decide) W
  have kput := fun (W : World) a1 c1 l1 x3 hll r => rputT_any a1 c1 l1 x3 hll W r
  clear hone hszd
  go_upto_region 4 with fail
  clear hdir
  go_wp2_with fail
  go_loopw [0, 13] (fun t0 t13 wr => ∃ (i : Nat) (l1 : List PN) (a1 : Option Addr) (c1 : Nat), i ≤ np ∧ i ≤ 5 ∧ t13 = .int .i64 (i : Int) ∧ t0 = .slice a1 l1.length c1 ∧ RowN wr a1 l1 ∧ namesP l1 = putsX j d1.n.label (ps.map (·.is)) ms rs i (namesP l) ∧ l1.length ≤ n + i ∧ BlkL nd d1.cs wr ∧ Below w.heap.size w wr) (fun _ t13 _ => 5 - (Go.RowKit.intOf t13).toNat)
  case atStart => exact ⟨0, l, a, cap, by omega, by omega, rfl, by rw [hn.out], h.below hB2, rfl, by rw [hn.out]; exact Nat.le_refl _, hnd, hB2⟩
  case round =>
   clear hnd hB2
   obtain ⟨i, l1, a1, c1, hi1, hi5, rfl, rfl, hrow, hl1, hll1, hnd, hBr⟩ := hrel
   by_cases hgo : i < np ∧ i < 5
   rotate_left
   ·have hm : i = min np 5 := by omega
    have hfin : namesP l1 = R := by
     rw [← hR.out]
     show namesP l1 = (if d1.n.dir = true then putsX j d1.n.label (ps.map (·.is)) ms rs (min (ps.map (·.is)).length 5) (namesP l) else namesP l)
     rw [if_pos hdd, List.length_map, hnp.out, ← hm]
     exact hl1
    clear hm
    by_cases q : i < np
    ·have i1 : (i : Int) < (np : Int) := by omega
     have i2 : ¬ (i : Int) < 5 := by omega
     go_wp2_with fail
     go_ret
     exact ⟨l1, a1, c1, rfl, hrow, hfin, hBr⟩
    ·have i1 : ¬ (i : Int) < (np : Int) := by omega
     go_wp2_with fail
     go_ret
     exact ⟨l1, a1, c1, rfl, hrow, hfin, hBr⟩
   replace hl1 : Aside _ := hl1
   have hll : l1.length ≤ 100000 := by omega
   obtain ⟨pp, hpp⟩ : ∃ pp, ps[i]? = some pp := ⟨_, List.getElem?_eq_getElem (by rw [hnp.out]; exact hgo.1)⟩
   obtain ⟨hpA', hpl⟩ := hpA pp (List.mem_of_getElem? hpp)
   have hpin : Aside ((ps.map (·.is)).getD i [] = pp.is) := by
    show _ = _
    rw [List.getD_eq_getElem?_getD, List.getElem?_map, hpp]
    rfl
   obtain ⟨yp, rfl, -⟩ := hps i pp hpp
   have hpr := (hps.below pg_len1 hBr).at pg_len1 hpp
   rw [Nat.mul_one] at hpr
   have i1 : (i : Int) < (np : Int) := by omega
   have i2 : (i : Int) < 5 := by omega
   have i3 : ¬ (i : Int) < 0 := by omega
   have hu8 : IntKind.u8.wrap (48 + (i : Int)) = 48 + (i : Int) := by rw [IntKind.wrap_u8]; omega
   have hu64 : IntKind.i64.wrap (48 + (i : Int)) = 48 + (i : Int) := by rw [IntKind.wrap_i64]; omega
   have kwd := fun (W : World) r => pwords_any pp.a pp.c pp.is hpl W r
   have hbd := nd_build
   have hDz : D.size = 3 := by rw [← hD.out]; rfl
   have hcz : (chr (48 + i)).size = 1 := rfl
   have hsl : (Tryz.prog.info? 30).map (·.size) = some (lab4 d1.n.label).length := by kernel_rfl
   have hsg : (Tryz.prog.info? 92).map (·.size) = some (pgcl pp).length := by kernel_rfl
   have hsr : (Tryz.prog.info? 33).map (·.size) = some 4 := by kernel_rfl
   have hpA2 := hpA'
   go_upto_region 7 with fail
   have hS00 : PX wr nd d1 yp i pp wr := ⟨hnd, hpr⟩
   have hdr : Below wr.heap.size wr wr.drew := (Below.refl _ _).drew
   have hS : PX wr nd d1 yp i pp wr.drew := hS00.then hdr
   have hBw : Below wr.heap.size wr wr.drew := hdr
   clear hdr hpr
   go_cut [14] from 39 to 58 (fun s14 wc => ∃ (gN : Nat) (x0 : PN), s14 = .pointer (some ⟨gN, 0, none⟩) ∧ Below wr.heap.size wr wc ∧ BlkL gN x0.cs wc ∧ wr.heap.size ≤ gN ∧ x0.n = segX (D ++ slpS ++ dgS i) d1.n.label 7 ⟨4, 4, 4, 0⟩ (wordsN pp.is) ∧ OwnR 119 2 gcl wc wr.heap.size x0.av x0.n.acl ∧ OwnR 2 1 wcl wc wr.heap.size x0.wv x0.n.words ∧ x0.av.ownBlock ≠ some gN ∧ x0.wv.ownBlock ≠ some gN ∧ ∀ g, x0.wv.ownBlock = some g → x0.av.ownBlock ≠ some g)
   ·skip
    refine wp_region_held_drew (S := (fun W => PX wr nd d1 yp i pp W)) (by kernel_rfl) (by exact hS) ?_
    intro hHeld
    generalize wr.drew = w0 at *
    refine tkA 0 ?_
    refine tkA 1 ?_
    refine tkA 2 ?_
    refine tkA 3 ?_
    refine tkA 4 ?_
    refine tkA 8 ?_
    refine tkB 9 (y := yieldsIf_load_mid (by rfl) 30 _ rfl nd 2 rfl (lab4 d1.n.label) _ (fun W s => s.lab) hundL rfl hsl) (h := ?_)
    refine tkA 10 ?_
    refine tkA 12 ?_
    refine tkA 13 ?_
    refine tkA 14 ?_
    refine tkA 15 ?_
    refine tkB 16 (y := yields_at (by rfl) _ rfl (yp.add i) rfl (pgcl pp) (fun _ s => s.pr) hundG rfl hsg) (h := ?_)
    refine tkR (rs := [5, 11, 17, 19]) ?_
    refine tkC (fun K hK => ?_) ?_
    ·go_simp
     have hb := alloc_below w0 (.cells #[.int .u8 (48 + (i : Int))] 5)
     refine hK.out _ _ (hS.then hb) ?_
     clear hHeld hK
     intro hHeld
     have hch : ChrAt (w0.alloc (.cells #[.int .u8 (48 + (i : Int))] 5)) w0.heap.size (48 + i) := chr_made2 w0 i (by omega)
     replace hBw := Below.then hBw hb
     replace hS := hS.then hb
     generalize w0.alloc (.cells #[.int .u8 (48 + (i : Int))] 5) = w1 at *
     generalize w0.heap.size = gC at *
     clear hb
     refine wpAnyH_strong (S' := fun W => PX wr nd d1 yp i pp W ∧ ChrAt W gC (48 + i)) (fun _ h => h.1) ?_
     replace hHeld : PX wr nd d1 yp i pp w1 ∧ ChrAt w1 gC (48 + i) := ⟨hS, hch⟩
     (try simp only [Act.put, zsA, zsB, zsC])
     refine tkB 6 (y := yields_conv (by rfl) _ rfl rfl (fun _ s => s.2.conv)) (h := ?_)
     refine tkA 7 ?_
     refine tkR (rs := [11, 17, 19]) ?_
     refine tkC (fun K hK => ?_) ?_
     ·skip
      have hb := alloc_below w1 (.cells (gcl ⟨starS, 7⟩).toArray 119)
      refine step_build1 gr_okT (by decide) rfl _ rfl (gcl ⟨starS, 7⟩) rfl rfl ?_
      (try simp only [Act.put, zsA, zsB, zsC])
      refine hK.out _ _ (⟨hS.then hb, hch.below hb⟩) ?_
      clear hHeld hK
      intro hHeld
      have hgr : OwnR 119 2 gcl (w1.alloc (.cells (gcl ⟨starS, 7⟩).toArray 119)) wr.heap.size (.slice (some ⟨w1.heap.size, 0, none⟩) 1 1) [⟨starS, 7⟩] := own_oneP gr_okT w1 hBw.size ⟨starS, 7⟩
      replace hBw := Below.then hBw hb
      replace hS := hS.then hb
      replace hch := hch.below hb
      generalize w1.alloc (.cells (gcl ⟨starS, 7⟩).toArray 119) = w2 at *
      generalize w1.heap.size = gA at *
      clear hb
      (try simp only [Act.put, zsA, zsB, zsC])
      refine tkR (rs := [17, 19]) ?_
      refine tkC (fun K hK => ?_) ?_
      ·go_simp
       go_at_call 42
       refine (kwd w2 (hpA'.below in_okW.len (Below.then hBr hBw))).mono ?_
       rintro e w3 ⟨vw, rfl, hwo, hb⟩
       obtain ⟨va, vc, hvw, -, -, -⟩ := hwo.slice wd_okC.len
       subst hvw
       have hBw0 : wr.heap.size ≤ w2.heap.size := hBw.size
       have hneG : (Value.slice va (wordsN pp.is).length vc).ownBlock ≠ some gA := fun q => by have h9 := (hwo.lt q).1; have h8 : gA < w2.heap.size := (hgr.lt rfl).2; omega
       replace hBw := Below.then hBw hb
       replace hS := hS.then hb
       replace hch := hch.below hb
       replace hgr := hgr.below hb
       replace hwo : OwnR 2 1 wcl w3 wr.heap.size (Value.slice va (wordsN pp.is).length vc) (wordsN pp.is) := hwo.lower hBw0
       clear hb hBw0
       refine hK.out _ _ (⟨hS, hch⟩) ?_
       clear hHeld hK
       intro hHeld
       (try simp only [Act.put, zsA, zsB, zsC])
       refine tkA 18 ?_
       refine tkR (rs := [19]) ?_
       refine tkC (fun K hK => ?_) AllReadyH.nil
       have hb := alloc_below w3 (.cells ZNP 36)
       refine step_allocC (z := ZNP) rfl rfl (fun _ => rfl) ?_
       (try simp only [Act.put, zsA, zsB, zsC])
       refine hK.out _ _ (⟨hS.then hb, hch.below hb⟩) ?_
       clear hHeld hK
       intro hHeld
       have hz : BlkL w3.heap.size zeroP.cs (w3.alloc (.cells ZNP 36)) := blkl_alloc w3 ZNP 36
       have hwN : wr.heap.size ≤ w3.heap.size := hBw.size
       have hneA : (Value.slice (some ⟨gA, 0, none⟩) 1 1).ownBlock ≠ some w3.heap.size := fun q => by have h9 : gA = w3.heap.size := Option.some.inj q; have h8 : gA < w3.heap.size := (hgr.lt rfl).2; omega
       have hneW : (Value.slice va (wordsN pp.is).length vc).ownBlock ≠ some w3.heap.size := fun q => by have := (hwo.lt q).2; omega
       replace hBw := Below.then hBw hb
       replace hS := hS.then hb
       replace hch := hch.below hb
       replace hgr := hgr.below hb
       replace hwo := hwo.below hb
       generalize w3.alloc (.cells ZNP 36) = w4 at *
       generalize w3.heap.size = gN at *
       clear hb
       (try simp only [Act.put, zsA, zsB, zsC])
       refine tkR (rs := [20]) ?_
       refine tkC (fun K hK => ?_) AllReadyH.nil
       obtain ⟨x0, hx0⟩ : ∃ x0 : PN, x0 = ⟨segX (D ++ slpS ++ dgS i) d1.n.label 7 ⟨4, 4, 4, 0⟩ (wordsN pp.is), some ⟨gA, 0, none⟩, 1, va, vc⟩ := ⟨_, rfl⟩
       have hxl : x0.cs.length = 16 := pn_len x0
       have hxs : (Tryz.prog.info? 36).map (·.size) = some x0.cs.length := by rw [hxl]; exact hszN
       obtain ⟨V9, hV9, hth9, hgo, hb9⟩ := put_any hz (ds := x0.cs) (by rw [hxl]; rfl) (by rw [hxl]; decide)
       refine step_store_rowC rfl _ _ rfl gN rfl x0.cs (by rw [hx0]; rfl) hth9 hxs (pn_one x0) hV9 ?_
       (try simp only [Act.put, zsA, zsB, zsC])
       have hk9 : ∀ j, j ≠ gN → V9.heap[j]? = w4.heap[j]? := fun j hj => by rw [← hV9]; exact heap_setCells_other hj _ _ _
       replace hBw := hb9 _ _ hwN hBw
       replace hS := hS00.then hBw
       replace hch : ChrAt V9 gC (48 + i) := hch.kept (hk9 _ (fun q => chr_ne hch hz q)) (hb9 0 w4 (Nat.zero_le _) (Below.refl _ _)).size
       replace hgr : OwnR 119 2 gcl V9 wr.heap.size x0.av x0.n.acl := by rw [hx0]; exact hgr.keep fun j hj => hk9 j (fun q => hneA (by rw [hj, q]))
       replace hwo : OwnR 2 1 wcl V9 wr.heap.size x0.wv x0.n.words := by rw [hx0]; exact hwo.keep fun j hj => hk9 j (fun q => hneW (by rw [hj, q]))
       replace hneA : x0.av.ownBlock ≠ some gN := by rw [hx0]; exact hneA
       replace hneW : x0.wv.ownBlock ≠ some gN := by rw [hx0]; exact hneW
       replace hneG : ∀ g, x0.wv.ownBlock = some g → x0.av.ownBlock ≠ some g := by rw [hx0]; exact fun g h9 h8 => hneG (by have h7 : gA = g := Option.some.inj h8; rw [h7]; exact h9)
       replace hx0 : Aside (x0.n = segX (D ++ slpS ++ dgS i) d1.n.label 7 ⟨4, 4, 4, 0⟩ (wordsN pp.is)) := by rw [hx0]; exact rfl
       clear hk9 hth9 hb9 hV9 hxs hxl hz
       refine hK.out _ _ (⟨hS, hch⟩) ?_
       clear hHeld hK
       intro hHeld
       (try simp only [Act.put, zsA, zsB, zsC])
       refine wpAnyH_done (by kernel_rfl) ?_ _
       clear hHeld
       go_wp2_with fail
       go_meet
       exact ⟨gN, x0, rfl, hBw, hgo, hwN, hx0.out, hgr, hwo, hneA, hneW, hneG⟩
      refine tkC (fun K hK => ?_) AllReadyH.nil
      have hb := alloc_below w2 (.cells ZNP 36)
      refine step_allocC (z := ZNP) rfl rfl (fun _ => rfl) ?_
      (try simp only [Act.put, zsA, zsB, zsC])
      refine hK.out _ _ (⟨hS.then hb, hch.below hb⟩) ?_
      clear hHeld hK
      intro hHeld
      have hz : BlkL w2.heap.size zeroP.cs (w2.alloc (.cells ZNP 36)) := blkl_alloc w2 ZNP 36
      have hwN : wr.heap.size ≤ w2.heap.size := hBw.size
      have hneA : (Value.slice (some ⟨gA, 0, none⟩) 1 1).ownBlock ≠ some w2.heap.size := fun q => by have h9 : gA = w2.heap.size := Option.some.inj q; have h8 : gA < w2.heap.size := (hgr.lt rfl).2; omega
      replace hBw := Below.then hBw hb
      replace hS := hS.then hb
      replace hch := hch.below hb
      replace hgr := hgr.below hb
      generalize w2.alloc (.cells ZNP 36) = w3 at *
      generalize w2.heap.size = gN at *
      clear hb
      (try simp only [Act.put, zsA, zsB, zsC])
      refine tkR (rs := [17]) ?_
      refine tkC (fun K hK => ?_) AllReadyH.nil
      go_simp
      go_at_call 42
      refine (kwd w3 (hpA'.below in_okW.len (Below.then hBr hBw))).mono ?_
      rintro e w4 ⟨vw, rfl, hwo, hb⟩
      obtain ⟨va, vc, hvw, -, -, -⟩ := hwo.slice wd_okC.len
      subst hvw
      have hBw0 : wr.heap.size ≤ w3.heap.size := hBw.size
      have hneW : (Value.slice va (wordsN pp.is).length vc).ownBlock ≠ some gN := fun q => by have h9 := (hwo.lt q).1; have h8 := hz.2; omega
      have hneG : (Value.slice va (wordsN pp.is).length vc).ownBlock ≠ some gA := fun q => by have h9 := (hwo.lt q).1; have h8 : gA < w3.heap.size := (hgr.lt rfl).2; omega
      replace hBw := Below.then hBw hb
      replace hS := hS.then hb
      replace hch := hch.below hb
      replace hgr := hgr.below hb
      replace hz := stab_blk _ _ _ _ hz hb
      replace hwo : OwnR 2 1 wcl w4 wr.heap.size (Value.slice va (wordsN pp.is).length vc) (wordsN pp.is) := hwo.lower hBw0
      clear hb hBw0
      refine hK.out _ _ (⟨hS, hch⟩) ?_
      clear hHeld hK
      intro hHeld
      (try simp only [Act.put, zsA, zsB, zsC])
      refine tkA 18 ?_
      refine tkR (rs := [20]) ?_
      refine tkC (fun K hK => ?_) AllReadyH.nil
      obtain ⟨x0, hx0⟩ : ∃ x0 : PN, x0 = ⟨segX (D ++ slpS ++ dgS i) d1.n.label 7 ⟨4, 4, 4, 0⟩ (wordsN pp.is), some ⟨gA, 0, none⟩, 1, va, vc⟩ := ⟨_, rfl⟩
      have hxl : x0.cs.length = 16 := pn_len x0
      have hxs : (Tryz.prog.info? 36).map (·.size) = some x0.cs.length := by rw [hxl]; exact hszN
      obtain ⟨V9, hV9, hth9, hgo, hb9⟩ := put_any hz (ds := x0.cs) (by rw [hxl]; rfl) (by rw [hxl]; decide)
      refine step_store_rowC rfl _ _ rfl gN rfl x0.cs (by rw [hx0]; rfl) hth9 hxs (pn_one x0) hV9 ?_
      (try simp only [Act.put, zsA, zsB, zsC])
      have hk9 : ∀ j, j ≠ gN → V9.heap[j]? = w4.heap[j]? := fun j hj => by rw [← hV9]; exact heap_setCells_other hj _ _ _
      replace hBw := hb9 _ _ hwN hBw
      replace hS := hS00.then hBw
      replace hch : ChrAt V9 gC (48 + i) := hch.kept (hk9 _ (fun q => chr_ne hch hz q)) (hb9 0 w4 (Nat.zero_le _) (Below.refl _ _)).size
      replace hgr : OwnR 119 2 gcl V9 wr.heap.size x0.av x0.n.acl := by rw [hx0]; exact hgr.keep fun j hj => hk9 j (fun q => hneA (by rw [hj, q]))
      replace hwo : OwnR 2 1 wcl V9 wr.heap.size x0.wv x0.n.words := by rw [hx0]; exact hwo.keep fun j hj => hk9 j (fun q => hneW (by rw [hj, q]))
      replace hneA : x0.av.ownBlock ≠ some gN := by rw [hx0]; exact hneA
      replace hneW : x0.wv.ownBlock ≠ some gN := by rw [hx0]; exact hneW
      replace hneG : ∀ g, x0.wv.ownBlock = some g → x0.av.ownBlock ≠ some g := by rw [hx0]; exact fun g h9 h8 => hneG (by have h7 : gA = g := Option.some.inj h8; rw [h7]; exact h9)
      replace hx0 : Aside (x0.n = segX (D ++ slpS ++ dgS i) d1.n.label 7 ⟨4, 4, 4, 0⟩ (wordsN pp.is)) := by rw [hx0]; exact rfl
      clear hk9 hth9 hb9 hV9 hxs hxl hz
      refine hK.out _ _ (⟨hS, hch⟩) ?_
      clear hHeld hK
      intro hHeld
      (try simp only [Act.put, zsA, zsB, zsC])
      refine wpAnyH_done (by kernel_rfl) ?_ _
      clear hHeld
      go_wp2_with fail
      go_meet
      exact ⟨gN, x0, rfl, hBw, hgo, hwN, hx0.out, hgr, hwo, hneA, hneW, hneG⟩
     refine tkC (fun K hK => ?_) ?_
     ·go_simp
      go_at_call 42
      refine (kwd w1 (hpA'.below in_okW.len (Below.then hBr hBw))).mono ?_
      rintro e w2 ⟨vw, rfl, hwo, hb⟩
      obtain ⟨va, vc, hvw, -, -, -⟩ := hwo.slice wd_okC.len
      subst hvw
      have hBw0 : wr.heap.size ≤ w1.heap.size := hBw.size
      replace hBw := Below.then hBw hb
      replace hS := hS.then hb
      replace hch := hch.below hb
      replace hwo : OwnR 2 1 wcl w2 wr.heap.size (Value.slice va (wordsN pp.is).length vc) (wordsN pp.is) := hwo.lower hBw0
      clear hb hBw0
      refine hK.out _ _ (⟨hS, hch⟩) ?_
      clear hHeld hK
      intro hHeld
      (try simp only [Act.put, zsA, zsB, zsC])
      refine tkR (rs := [11, 19]) ?_
      refine tkC (fun K hK => ?_) ?_
      ·skip
       have hb := alloc_below w2 (.cells (gcl ⟨starS, 7⟩).toArray 119)
       refine step_build1 gr_okT (by decide) rfl _ rfl (gcl ⟨starS, 7⟩) rfl rfl ?_
       (try simp only [Act.put, zsA, zsB, zsC])
       refine hK.out _ _ (⟨hS.then hb, hch.below hb⟩) ?_
       clear hHeld hK
       intro hHeld
       have hgr : OwnR 119 2 gcl (w2.alloc (.cells (gcl ⟨starS, 7⟩).toArray 119)) wr.heap.size (.slice (some ⟨w2.heap.size, 0, none⟩) 1 1) [⟨starS, 7⟩] := own_oneP gr_okT w2 hBw.size ⟨starS, 7⟩
       have hneG : (Value.slice va (wordsN pp.is).length vc).ownBlock ≠ some w2.heap.size := fun q => by have := (hwo.lt q).2; omega
       replace hBw := Below.then hBw hb
       replace hS := hS.then hb
       replace hch := hch.below hb
       replace hwo := hwo.below hb
       generalize w2.alloc (.cells (gcl ⟨starS, 7⟩).toArray 119) = w3 at *
       generalize w2.heap.size = gA at *
       clear hb
       (try simp only [Act.put, zsA, zsB, zsC])
       refine tkA 18 ?_
       refine tkR (rs := [19]) ?_
       refine tkC (fun K hK => ?_) AllReadyH.nil
       have hb := alloc_below w3 (.cells ZNP 36)
       refine step_allocC (z := ZNP) rfl rfl (fun _ => rfl) ?_
       (try simp only [Act.put, zsA, zsB, zsC])
       refine hK.out _ _ (⟨hS.then hb, hch.below hb⟩) ?_
       clear hHeld hK
       intro hHeld
       have hz : BlkL w3.heap.size zeroP.cs (w3.alloc (.cells ZNP 36)) := blkl_alloc w3 ZNP 36
       have hwN : wr.heap.size ≤ w3.heap.size := hBw.size
       have hneA : (Value.slice (some ⟨gA, 0, none⟩) 1 1).ownBlock ≠ some w3.heap.size := fun q => by have h9 : gA = w3.heap.size := Option.some.inj q; have h8 : gA < w3.heap.size := (hgr.lt rfl).2; omega
       have hneW : (Value.slice va (wordsN pp.is).length vc).ownBlock ≠ some w3.heap.size := fun q => by have := (hwo.lt q).2; omega
       replace hBw := Below.then hBw hb
       replace hS := hS.then hb
       replace hch := hch.below hb
       replace hgr := hgr.below hb
       replace hwo := hwo.below hb
       generalize w3.alloc (.cells ZNP 36) = w4 at *
       generalize w3.heap.size = gN at *
       clear hb
       (try simp only [Act.put, zsA, zsB, zsC])
       refine tkR (rs := [20]) ?_
       refine tkC (fun K hK => ?_) AllReadyH.nil
       obtain ⟨x0, hx0⟩ : ∃ x0 : PN, x0 = ⟨segX (D ++ slpS ++ dgS i) d1.n.label 7 ⟨4, 4, 4, 0⟩ (wordsN pp.is), some ⟨gA, 0, none⟩, 1, va, vc⟩ := ⟨_, rfl⟩
       have hxl : x0.cs.length = 16 := pn_len x0
       have hxs : (Tryz.prog.info? 36).map (·.size) = some x0.cs.length := by rw [hxl]; exact hszN
       obtain ⟨V9, hV9, hth9, hgo, hb9⟩ := put_any hz (ds := x0.cs) (by rw [hxl]; rfl) (by rw [hxl]; decide)
       refine step_store_rowC rfl _ _ rfl gN rfl x0.cs (by rw [hx0]; rfl) hth9 hxs (pn_one x0) hV9 ?_
       (try simp only [Act.put, zsA, zsB, zsC])
       have hk9 : ∀ j, j ≠ gN → V9.heap[j]? = w4.heap[j]? := fun j hj => by rw [← hV9]; exact heap_setCells_other hj _ _ _
       replace hBw := hb9 _ _ hwN hBw
       replace hS := hS00.then hBw
       replace hch : ChrAt V9 gC (48 + i) := hch.kept (hk9 _ (fun q => chr_ne hch hz q)) (hb9 0 w4 (Nat.zero_le _) (Below.refl _ _)).size
       replace hgr : OwnR 119 2 gcl V9 wr.heap.size x0.av x0.n.acl := by rw [hx0]; exact hgr.keep fun j hj => hk9 j (fun q => hneA (by rw [hj, q]))
       replace hwo : OwnR 2 1 wcl V9 wr.heap.size x0.wv x0.n.words := by rw [hx0]; exact hwo.keep fun j hj => hk9 j (fun q => hneW (by rw [hj, q]))
       replace hneA : x0.av.ownBlock ≠ some gN := by rw [hx0]; exact hneA
       replace hneW : x0.wv.ownBlock ≠ some gN := by rw [hx0]; exact hneW
       replace hneG : ∀ g, x0.wv.ownBlock = some g → x0.av.ownBlock ≠ some g := by rw [hx0]; exact fun g h9 h8 => hneG (by have h7 : gA = g := Option.some.inj h8; rw [h7]; exact h9)
       replace hx0 : Aside (x0.n = segX (D ++ slpS ++ dgS i) d1.n.label 7 ⟨4, 4, 4, 0⟩ (wordsN pp.is)) := by rw [hx0]; exact rfl
       clear hk9 hth9 hb9 hV9 hxs hxl hz
       refine hK.out _ _ (⟨hS, hch⟩) ?_
       clear hHeld hK
       intro hHeld
       (try simp only [Act.put, zsA, zsB, zsC])
       refine wpAnyH_done (by kernel_rfl) ?_ _
       clear hHeld
       go_wp2_with fail
       go_meet
       exact ⟨gN, x0, rfl, hBw, hgo, hwN, hx0.out, hgr, hwo, hneA, hneW, hneG⟩
      refine tkC (fun K hK => ?_) AllReadyH.nil
      have hb := alloc_below w2 (.cells ZNP 36)
      refine step_allocC (z := ZNP) rfl rfl (fun _ => rfl) ?_
      (try simp only [Act.put, zsA, zsB, zsC])
      refine hK.out _ _ (⟨hS.then hb, hch.below hb⟩) ?_
      clear hHeld hK
      intro hHeld
      have hz : BlkL w2.heap.size zeroP.cs (w2.alloc (.cells ZNP 36)) := blkl_alloc w2 ZNP 36
      have hwN : wr.heap.size ≤ w2.heap.size := hBw.size
      have hneW : (Value.slice va (wordsN pp.is).length vc).ownBlock ≠ some w2.heap.size := fun q => by have := (hwo.lt q).2; omega
      replace hBw := Below.then hBw hb
      replace hS := hS.then hb
      replace hch := hch.below hb
      replace hwo := hwo.below hb
      generalize w2.alloc (.cells ZNP 36) = w3 at *
      generalize w2.heap.size = gN at *
      clear hb
      (try simp only [Act.put, zsA, zsB, zsC])
      refine tkR (rs := [11]) ?_
      refine tkC (fun K hK => ?_) AllReadyH.nil
      have hb := alloc_below w3 (.cells (gcl ⟨starS, 7⟩).toArray 119)
      refine step_build1 gr_okT (by decide) rfl _ rfl (gcl ⟨starS, 7⟩) rfl rfl ?_
      (try simp only [Act.put, zsA, zsB, zsC])
      refine hK.out _ _ (⟨hS.then hb, hch.below hb⟩) ?_
      clear hHeld hK
      intro hHeld
      have hgr : OwnR 119 2 gcl (w3.alloc (.cells (gcl ⟨starS, 7⟩).toArray 119)) wr.heap.size (.slice (some ⟨w3.heap.size, 0, none⟩) 1 1) [⟨starS, 7⟩] := own_oneP gr_okT w3 hBw.size ⟨starS, 7⟩
      have hneA : (Value.slice (some ⟨w3.heap.size, 0, none⟩) 1 1).ownBlock ≠ some gN := fun q => by have h9 : w3.heap.size = gN := Option.some.inj q; have h8 := hz.2; omega
      have hneG : (Value.slice va (wordsN pp.is).length vc).ownBlock ≠ some w3.heap.size := fun q => by have := (hwo.lt q).2; omega
      replace hBw := Below.then hBw hb
      replace hS := hS.then hb
      replace hch := hch.below hb
      replace hwo := hwo.below hb
      replace hz := stab_blk _ _ _ _ hz hb
      generalize w3.alloc (.cells (gcl ⟨starS, 7⟩).toArray 119) = w4 at *
      generalize w3.heap.size = gA at *
      clear hb
      (try simp only [Act.put, zsA, zsB, zsC])
      refine tkA 18 ?_
      refine tkR (rs := [20]) ?_
      refine tkC (fun K hK => ?_) AllReadyH.nil
      obtain ⟨x0, hx0⟩ : ∃ x0 : PN, x0 = ⟨segX (D ++ slpS ++ dgS i) d1.n.label 7 ⟨4, 4, 4, 0⟩ (wordsN pp.is), some ⟨gA, 0, none⟩, 1, va, vc⟩ := ⟨_, rfl⟩
      have hxl : x0.cs.length = 16 := pn_len x0
      have hxs : (Tryz.prog.info? 36).map (·.size) = some x0.cs.length := by rw [hxl]; exact hszN
      obtain ⟨V9, hV9, hth9, hgo, hb9⟩ := put_any hz (ds := x0.cs) (by rw [hxl]; rfl) (by rw [hxl]; decide)
      refine step_store_rowC rfl _ _ rfl gN rfl x0.cs (by rw [hx0]; rfl) hth9 hxs (pn_one x0) hV9 ?_
      (try simp only [Act.put, zsA, zsB, zsC])
      have hk9 : ∀ j, j ≠ gN → V9.heap[j]? = w4.heap[j]? := fun j hj => by rw [← hV9]; exact heap_setCells_other hj _ _ _
      replace hBw := hb9 _ _ hwN hBw
      replace hS := hS00.then hBw
      replace hch : ChrAt V9 gC (48 + i) := hch.kept (hk9 _ (fun q => chr_ne hch hz q)) (hb9 0 w4 (Nat.zero_le _) (Below.refl _ _)).size
      replace hgr : OwnR 119 2 gcl V9 wr.heap.size x0.av x0.n.acl := by rw [hx0]; exact hgr.keep fun j hj => hk9 j (fun q => hneA (by rw [hj, q]))
      replace hwo : OwnR 2 1 wcl V9 wr.heap.size x0.wv x0.n.words := by rw [hx0]; exact hwo.keep fun j hj => hk9 j (fun q => hneW (by rw [hj, q]))
      replace hneA : x0.av.ownBlock ≠ some gN := by rw [hx0]; exact hneA
      replace hneW : x0.wv.ownBlock ≠ some gN := by rw [hx0]; exact hneW
      replace hneG : ∀ g, x0.wv.ownBlock = some g → x0.av.ownBlock ≠ some g := by rw [hx0]; exact fun g h9 h8 => hneG (by have h7 : gA = g := Option.some.inj h8; rw [h7]; exact h9)
      replace hx0 : Aside (x0.n = segX (D ++ slpS ++ dgS i) d1.n.label 7 ⟨4, 4, 4, 0⟩ (wordsN pp.is)) := by rw [hx0]; exact rfl
      clear hk9 hth9 hb9 hV9 hxs hxl hz
      refine hK.out _ _ (⟨hS, hch⟩) ?_
      clear hHeld hK
      intro hHeld
      (try simp only [Act.put, zsA, zsB, zsC])
      refine wpAnyH_done (by kernel_rfl) ?_ _
      clear hHeld
      go_wp2_with fail
      go_meet
      exact ⟨gN, x0, rfl, hBw, hgo, hwN, hx0.out, hgr, hwo, hneA, hneW, hneG⟩
     refine tkC (fun K hK => ?_) AllReadyH.nil
     have hb := alloc_below w1 (.cells ZNP 36)
     refine step_allocC (z := ZNP) rfl rfl (fun _ => rfl) ?_
     (try simp only [Act.put, zsA, zsB, zsC])
     refine hK.out _ _ (⟨hS.then hb, hch.below hb⟩) ?_
     clear hHeld hK
     intro hHeld
     have hz : BlkL w1.heap.size zeroP.cs (w1.alloc (.cells ZNP 36)) := blkl_alloc w1 ZNP 36
     have hwN : wr.heap.size ≤ w1.heap.size := hBw.size
     replace hBw := Below.then hBw hb
     replace hS := hS.then hb
     replace hch := hch.below hb
     generalize w1.alloc (.cells ZNP 36) = w2 at *
     generalize w1.heap.size = gN at *
     clear hb
     (try simp only [Act.put, zsA, zsB, zsC])
     refine tkR (rs := [11, 17]) ?_
     refine tkC (fun K hK => ?_) ?_
     ·skip
      have hb := alloc_below w2 (.cells (gcl ⟨starS, 7⟩).toArray 119)
      refine step_build1 gr_okT (by decide) rfl _ rfl (gcl ⟨starS, 7⟩) rfl rfl ?_
      (try simp only [Act.put, zsA, zsB, zsC])
      refine hK.out _ _ (⟨hS.then hb, hch.below hb⟩) ?_
      clear hHeld hK
      intro hHeld
      have hgr : OwnR 119 2 gcl (w2.alloc (.cells (gcl ⟨starS, 7⟩).toArray 119)) wr.heap.size (.slice (some ⟨w2.heap.size, 0, none⟩) 1 1) [⟨starS, 7⟩] := own_oneP gr_okT w2 hBw.size ⟨starS, 7⟩
      have hneA : (Value.slice (some ⟨w2.heap.size, 0, none⟩) 1 1).ownBlock ≠ some gN := fun q => by have h9 : w2.heap.size = gN := Option.some.inj q; have h8 := hz.2; omega
      replace hBw := Below.then hBw hb
      replace hS := hS.then hb
      replace hch := hch.below hb
      replace hz := stab_blk _ _ _ _ hz hb
      generalize w2.alloc (.cells (gcl ⟨starS, 7⟩).toArray 119) = w3 at *
      generalize w2.heap.size = gA at *
      clear hb
      (try simp only [Act.put, zsA, zsB, zsC])
      refine tkR (rs := [17]) ?_
      refine tkC (fun K hK => ?_) AllReadyH.nil
      go_simp
      go_at_call 42
      refine (kwd w3 (hpA'.below in_okW.len (Below.then hBr hBw))).mono ?_
      rintro e w4 ⟨vw, rfl, hwo, hb⟩
      obtain ⟨va, vc, hvw, -, -, -⟩ := hwo.slice wd_okC.len
      subst hvw
      have hBw0 : wr.heap.size ≤ w3.heap.size := hBw.size
      have hneW : (Value.slice va (wordsN pp.is).length vc).ownBlock ≠ some gN := fun q => by have h9 := (hwo.lt q).1; have h8 := hz.2; omega
      have hneG : (Value.slice va (wordsN pp.is).length vc).ownBlock ≠ some gA := fun q => by have h9 := (hwo.lt q).1; have h8 : gA < w3.heap.size := (hgr.lt rfl).2; omega
      replace hBw := Below.then hBw hb
      replace hS := hS.then hb
      replace hch := hch.below hb
      replace hgr := hgr.below hb
      replace hz := stab_blk _ _ _ _ hz hb
      replace hwo : OwnR 2 1 wcl w4 wr.heap.size (Value.slice va (wordsN pp.is).length vc) (wordsN pp.is) := hwo.lower hBw0
      clear hb hBw0
      refine hK.out _ _ (⟨hS, hch⟩) ?_
      clear hHeld hK
      intro hHeld
      (try simp only [Act.put, zsA, zsB, zsC])
      refine tkA 18 ?_
      refine tkR (rs := [20]) ?_
      refine tkC (fun K hK => ?_) AllReadyH.nil
      obtain ⟨x0, hx0⟩ : ∃ x0 : PN, x0 = ⟨segX (D ++ slpS ++ dgS i) d1.n.label 7 ⟨4, 4, 4, 0⟩ (wordsN pp.is), some ⟨gA, 0, none⟩, 1, va, vc⟩ := ⟨_, rfl⟩
      have hxl : x0.cs.length = 16 := pn_len x0
      have hxs : (Tryz.prog.info? 36).map (·.size) = some x0.cs.length := by rw [hxl]; exact hszN
      obtain ⟨V9, hV9, hth9, hgo, hb9⟩ := put_any hz (ds := x0.cs) (by rw [hxl]; rfl) (by rw [hxl]; decide)
      refine step_store_rowC rfl _ _ rfl gN rfl x0.cs (by rw [hx0]; rfl) hth9 hxs (pn_one x0) hV9 ?_
      (try simp only [Act.put, zsA, zsB, zsC])
      have hk9 : ∀ j, j ≠ gN → V9.heap[j]? = w4.heap[j]? := fun j hj => by rw [← hV9]; exact heap_setCells_other hj _ _ _
      replace hBw := hb9 _ _ hwN hBw
      replace hS := hS00.then hBw
      replace hch : ChrAt V9 gC (48 + i) := hch.kept (hk9 _ (fun q => chr_ne hch hz q)) (hb9 0 w4 (Nat.zero_le _) (Below.refl _ _)).size
      replace hgr : OwnR 119 2 gcl V9 wr.heap.size x0.av x0.n.acl := by rw [hx0]; exact hgr.keep fun j hj => hk9 j (fun q => hneA (by rw [hj, q]))
      replace hwo : OwnR 2 1 wcl V9 wr.heap.size x0.wv x0.n.words := by rw [hx0]; exact hwo.keep fun j hj => hk9 j (fun q => hneW (by rw [hj, q]))
      replace hneA : x0.av.ownBlock ≠ some gN := by rw [hx0]; exact hneA
      replace hneW : x0.wv.ownBlock ≠ some gN := by rw [hx0]; exact hneW
      replace hneG : ∀ g, x0.wv.ownBlock = some g → x0.av.ownBlock ≠ some g := by rw [hx0]; exact fun g h9 h8 => hneG (by have h7 : gA = g := Option.some.inj h8; rw [h7]; exact h9)
      replace hx0 : Aside (x0.n = segX (D ++ slpS ++ dgS i) d1.n.label 7 ⟨4, 4, 4, 0⟩ (wordsN pp.is)) := by rw [hx0]; exact rfl
      clear hk9 hth9 hb9 hV9 hxs hxl hz
      refine hK.out _ _ (⟨hS, hch⟩) ?_
      clear hHeld hK
      intro hHeld
      (try simp only [Act.put, zsA, zsB, zsC])
      refine wpAnyH_done (by kernel_rfl) ?_ _
      clear hHeld
      go_wp2_with fail
      go_meet
      exact ⟨gN, x0, rfl, hBw, hgo, hwN, hx0.out, hgr, hwo, hneA, hneW, hneG⟩
     refine tkC (fun K hK => ?_) AllReadyH.nil
     go_simp
     go_at_call 42
     refine (kwd w2 (hpA'.below in_okW.len (Below.then hBr hBw))).mono ?_
     rintro e w3 ⟨vw, rfl, hwo, hb⟩
     obtain ⟨va, vc, hvw, -, -, -⟩ := hwo.slice wd_okC.len
     subst hvw
     have hBw0 : wr.heap.size ≤ w2.heap.size := hBw.size
     have hneW : (Value.slice va (wordsN pp.is).length vc).ownBlock ≠ some gN := fun q => by have h9 := (hwo.lt q).1; have h8 := hz.2; omega
     replace hBw := Below.then hBw hb
     replace hS := hS.then hb
     replace hch := hch.below hb
     replace hz := stab_blk _ _ _ _ hz hb
     replace hwo : OwnR 2 1 wcl w3 wr.heap.size (Value.slice va (wordsN pp.is).length vc) (wordsN pp.is) := hwo.lower hBw0
     clear hb hBw0
     refine hK.out _ _ (⟨hS, hch⟩) ?_
     clear hHeld hK
     intro hHeld
     (try simp only [Act.put, zsA, zsB, zsC])
     refine tkR (rs := [11]) ?_
     refine tkC (fun K hK => ?_) AllReadyH.nil
     have hb := alloc_below w3 (.cells (gcl ⟨starS, 7⟩).toArray 119)
     refine step_build1 gr_okT (by decide) rfl _ rfl (gcl ⟨starS, 7⟩) rfl rfl ?_
     (try simp only [Act.put, zsA, zsB, zsC])
     refine hK.out _ _ (⟨hS.then hb, hch.below hb⟩) ?_
     clear hHeld hK
     intro hHeld
     have hgr : OwnR 119 2 gcl (w3.alloc (.cells (gcl ⟨starS, 7⟩).toArray 119)) wr.heap.size (.slice (some ⟨w3.heap.size, 0, none⟩) 1 1) [⟨starS, 7⟩] := own_oneP gr_okT w3 hBw.size ⟨starS, 7⟩
     have hneA : (Value.slice (some ⟨w3.heap.size, 0, none⟩) 1 1).ownBlock ≠ some gN := fun q => by have h9 : w3.heap.size = gN := Option.some.inj q; have h8 := hz.2; omega
     have hneG : (Value.slice va (wordsN pp.is).length vc).ownBlock ≠ some w3.heap.size := fun q => by have := (hwo.lt q).2; omega
     replace hBw := Below.then hBw hb
     replace hS := hS.then hb
     replace hch := hch.below hb
     replace hwo := hwo.below hb
     replace hz := stab_blk _ _ _ _ hz hb
     generalize w3.alloc (.cells (gcl ⟨starS, 7⟩).toArray 119) = w4 at *
     generalize w3.heap.size = gA at *
     clear hb
     (try simp only [Act.put, zsA, zsB, zsC])
     refine tkA 18 ?_
     refine tkR (rs := [20]) ?_
     refine tkC (fun K hK => ?_) AllReadyH.nil
     obtain ⟨x0, hx0⟩ : ∃ x0 : PN, x0 = ⟨segX (D ++ slpS ++ dgS i) d1.n.label 7 ⟨4, 4, 4, 0⟩ (wordsN pp.is), some ⟨gA, 0, none⟩, 1, va, vc⟩ := ⟨_, rfl⟩
     have hxl : x0.cs.length = 16 := pn_len x0
     have hxs : (Tryz.prog.info? 36).map (·.size) = some x0.cs.length := by rw [hxl]; exact hszN
     obtain ⟨V9, hV9, hth9, hgo, hb9⟩ := put_any hz (ds := x0.cs) (by rw [hxl]; rfl) (by rw [hxl]; decide)
     refine step_store_rowC rfl _ _ rfl gN rfl x0.cs (by rw [hx0]; rfl) hth9 hxs (pn_one x0) hV9 ?_
     (try simp only [Act.put, zsA, zsB, zsC])
     have hk9 : ∀ j, j ≠ gN → V9.heap[j]? = w4.heap[j]? := fun j hj => by rw [← hV9]; exact heap_setCells_other hj _ _ _
     replace hBw := hb9 _ _ hwN hBw
     replace hS := hS00.then hBw
     replace hch : ChrAt V9 gC (48 + i) := hch.kept (hk9 _ (fun q => chr_ne hch hz q)) (hb9 0 w4 (Nat.zero_le _) (Below.refl _ _)).size
     replace hgr : OwnR 119 2 gcl V9 wr.heap.size x0.av x0.n.acl := by rw [hx0]; exact hgr.keep fun j hj => hk9 j (fun q => hneA (by rw [hj, q]))
     replace hwo : OwnR 2 1 wcl V9 wr.heap.size x0.wv x0.n.words := by rw [hx0]; exact hwo.keep fun j hj => hk9 j (fun q => hneW (by rw [hj, q]))
     replace hneA : x0.av.ownBlock ≠ some gN := by rw [hx0]; exact hneA
     replace hneW : x0.wv.ownBlock ≠ some gN := by rw [hx0]; exact hneW
     replace hneG : ∀ g, x0.wv.ownBlock = some g → x0.av.ownBlock ≠ some g := by rw [hx0]; exact fun g h9 h8 => hneG (by have h7 : gA = g := Option.some.inj h8; rw [h7]; exact h9)
     replace hx0 : Aside (x0.n = segX (D ++ slpS ++ dgS i) d1.n.label 7 ⟨4, 4, 4, 0⟩ (wordsN pp.is)) := by rw [hx0]; exact rfl
     clear hk9 hth9 hb9 hV9 hxs hxl hz
     refine hK.out _ _ (⟨hS, hch⟩) ?_
     clear hHeld hK
     intro hHeld
     (try simp only [Act.put, zsA, zsB, zsC])
     refine wpAnyH_done (by kernel_rfl) ?_ _
     clear hHeld
     go_wp2_with fail
     go_meet
     exact ⟨gN, x0, rfl, hBw, hgo, hwN, hx0.out, hgr, hwo, hneA, hneW, hneG⟩
    refine tkC (fun K hK => ?_) ?_
    ·skip
     have hb := alloc_below w0 (.cells (gcl ⟨starS, 7⟩).toArray 119)
     refine step_build1 gr_okT (by decide) rfl _ rfl (gcl ⟨starS, 7⟩) rfl rfl ?_
     (try simp only [Act.put, zsA, zsB, zsC])
     refine hK.out _ _ (hS.then hb) ?_
     clear hHeld hK
     intro hHeld
     have hgr : OwnR 119 2 gcl (w0.alloc (.cells (gcl ⟨starS, 7⟩).toArray 119)) wr.heap.size (.slice (some ⟨w0.heap.size, 0, none⟩) 1 1) [⟨starS, 7⟩] := own_oneP gr_okT w0 hBw.size ⟨starS, 7⟩
     replace hBw := Below.then hBw hb
     replace hS := hS.then hb
     generalize w0.alloc (.cells (gcl ⟨starS, 7⟩).toArray 119) = w1 at *
     generalize w0.heap.size = gA at *
     clear hb
     (try simp only [Act.put, zsA, zsB, zsC])
     refine tkR (rs := [5, 17, 19]) ?_
     refine tkC (fun K hK => ?_) ?_
     ·go_simp
      have hb := alloc_below w1 (.cells #[.int .u8 (48 + (i : Int))] 5)
      refine hK.out _ _ (hS.then hb) ?_
      clear hHeld hK
      intro hHeld
      have hch : ChrAt (w1.alloc (.cells #[.int .u8 (48 + (i : Int))] 5)) w1.heap.size (48 + i) := chr_made2 w1 i (by omega)
      replace hBw := Below.then hBw hb
      replace hS := hS.then hb
      replace hgr := hgr.below hb
      generalize w1.alloc (.cells #[.int .u8 (48 + (i : Int))] 5) = w2 at *
      generalize w1.heap.size = gC at *
      clear hb
      refine wpAnyH_strong (S' := fun W => PX wr nd d1 yp i pp W ∧ ChrAt W gC (48 + i)) (fun _ h => h.1) ?_
      replace hHeld : PX wr nd d1 yp i pp w2 ∧ ChrAt w2 gC (48 + i) := ⟨hS, hch⟩
      (try simp only [Act.put, zsA, zsB, zsC])
      refine tkB 6 (y := yields_conv (by rfl) _ rfl rfl (fun _ s => s.2.conv)) (h := ?_)
      refine tkA 7 ?_
      refine tkR (rs := [17, 19]) ?_
      refine tkC (fun K hK => ?_) ?_
      ·go_simp
       go_at_call 42
       refine (kwd w2 (hpA'.below in_okW.len (Below.then hBr hBw))).mono ?_
       rintro e w3 ⟨vw, rfl, hwo, hb⟩
       obtain ⟨va, vc, hvw, -, -, -⟩ := hwo.slice wd_okC.len
       subst hvw
       have hBw0 : wr.heap.size ≤ w2.heap.size := hBw.size
       have hneG : (Value.slice va (wordsN pp.is).length vc).ownBlock ≠ some gA := fun q => by have h9 := (hwo.lt q).1; have h8 : gA < w2.heap.size := (hgr.lt rfl).2; omega
       replace hBw := Below.then hBw hb
       replace hS := hS.then hb
       replace hch := hch.below hb
       replace hgr := hgr.below hb
       replace hwo : OwnR 2 1 wcl w3 wr.heap.size (Value.slice va (wordsN pp.is).length vc) (wordsN pp.is) := hwo.lower hBw0
       clear hb hBw0
       refine hK.out _ _ (⟨hS, hch⟩) ?_
       clear hHeld hK
       intro hHeld
       (try simp only [Act.put, zsA, zsB, zsC])
       refine tkA 18 ?_
       refine tkR (rs := [19]) ?_
       refine tkC (fun K hK => ?_) AllReadyH.nil
       have hb := alloc_below w3 (.cells ZNP 36)
       refine step_allocC (z := ZNP) rfl rfl (fun _ => rfl) ?_
       (try simp only [Act.put, zsA, zsB, zsC])
       refine hK.out _ _ (⟨hS.then hb, hch.below hb⟩) ?_
       clear hHeld hK
       intro hHeld
       have hz : BlkL w3.heap.size zeroP.cs (w3.alloc (.cells ZNP 36)) := blkl_alloc w3 ZNP 36
       have hwN : wr.heap.size ≤ w3.heap.size := hBw.size
       have hneA : (Value.slice (some ⟨gA, 0, none⟩) 1 1).ownBlock ≠ some w3.heap.size := fun q => by have h9 : gA = w3.heap.size := Option.some.inj q; have h8 : gA < w3.heap.size := (hgr.lt rfl).2; omega
       have hneW : (Value.slice va (wordsN pp.is).length vc).ownBlock ≠ some w3.heap.size := fun q => by have := (hwo.lt q).2; omega
       replace hBw := Below.then hBw hb
       replace hS := hS.then hb
       replace hch := hch.below hb
       replace hgr := hgr.below hb
       replace hwo := hwo.below hb
       generalize w3.alloc (.cells ZNP 36) = w4 at *
       generalize w3.heap.size = gN at *
       clear hb
       (try simp only [Act.put, zsA, zsB, zsC])
       refine tkR (rs := [20]) ?_
       refine tkC (fun K hK => ?_) AllReadyH.nil
       obtain ⟨x0, hx0⟩ : ∃ x0 : PN, x0 = ⟨segX (D ++ slpS ++ dgS i) d1.n.label 7 ⟨4, 4, 4, 0⟩ (wordsN pp.is), some ⟨gA, 0, none⟩, 1, va, vc⟩ := ⟨_, rfl⟩
       have hxl : x0.cs.length = 16 := pn_len x0
       have hxs : (Tryz.prog.info? 36).map (·.size) = some x0.cs.length := by rw [hxl]; exact hszN
       obtain ⟨V9, hV9, hth9, hgo, hb9⟩ := put_any hz (ds := x0.cs) (by rw [hxl]; rfl) (by rw [hxl]; decide)
       refine step_store_rowC rfl _ _ rfl gN rfl x0.cs (by rw [hx0]; rfl) hth9 hxs (pn_one x0) hV9 ?_
       (try simp only [Act.put, zsA, zsB, zsC])
       have hk9 : ∀ j, j ≠ gN → V9.heap[j]? = w4.heap[j]? := fun j hj => by rw [← hV9]; exact heap_setCells_other hj _ _ _
       replace hBw := hb9 _ _ hwN hBw
       replace hS := hS00.then hBw
       replace hch : ChrAt V9 gC (48 + i) := hch.kept (hk9 _ (fun q => chr_ne hch hz q)) (hb9 0 w4 (Nat.zero_le _) (Below.refl _ _)).size
       replace hgr : OwnR 119 2 gcl V9 wr.heap.size x0.av x0.n.acl := by rw [hx0]; exact hgr.keep fun j hj => hk9 j (fun q => hneA (by rw [hj, q]))
       replace hwo : OwnR 2 1 wcl V9 wr.heap.size x0.wv x0.n.words := by rw [hx0]; exact hwo.keep fun j hj => hk9 j (fun q => hneW (by rw [hj, q]))
       replace hneA : x0.av.ownBlock ≠ some gN := by rw [hx0]; exact hneA
       replace hneW : x0.wv.ownBlock ≠ some gN := by rw [hx0]; exact hneW
       replace hneG : ∀ g, x0.wv.ownBlock = some g → x0.av.ownBlock ≠ some g := by rw [hx0]; exact fun g h9 h8 => hneG (by have h7 : gA = g := Option.some.inj h8; rw [h7]; exact h9)
       replace hx0 : Aside (x0.n = segX (D ++ slpS ++ dgS i) d1.n.label 7 ⟨4, 4, 4, 0⟩ (wordsN pp.is)) := by rw [hx0]; exact rfl
       clear hk9 hth9 hb9 hV9 hxs hxl hz
       refine hK.out _ _ (⟨hS, hch⟩) ?_
       clear hHeld hK
       intro hHeld
       (try simp only [Act.put, zsA, zsB, zsC])
       refine wpAnyH_done (by kernel_rfl) ?_ _
       clear hHeld
       go_wp2_with fail
       go_meet
       exact ⟨gN, x0, rfl, hBw, hgo, hwN, hx0.out, hgr, hwo, hneA, hneW, hneG⟩
      refine tkC (fun K hK => ?_) AllReadyH.nil
      have hb := alloc_below w2 (.cells ZNP 36)
      refine step_allocC (z := ZNP) rfl rfl (fun _ => rfl) ?_
      (try simp only [Act.put, zsA, zsB, zsC])
      refine hK.out _ _ (⟨hS.then hb, hch.below hb⟩) ?_
      clear hHeld hK
      intro hHeld
      have hz : BlkL w2.heap.size zeroP.cs (w2.alloc (.cells ZNP 36)) := blkl_alloc w2 ZNP 36
      have hwN : wr.heap.size ≤ w2.heap.size := hBw.size
      have hneA : (Value.slice (some ⟨gA, 0, none⟩) 1 1).ownBlock ≠ some w2.heap.size := fun q => by have h9 : gA = w2.heap.size := Option.some.inj q; have h8 : gA < w2.heap.size := (hgr.lt rfl).2; omega
      replace hBw := Below.then hBw hb
      replace hS := hS.then hb
      replace hch := hch.below hb
      replace hgr := hgr.below hb
      generalize w2.alloc (.cells ZNP 36) = w3 at *
      generalize w2.heap.size = gN at *
      clear hb
      (try simp only [Act.put, zsA, zsB, zsC])
      refine tkR (rs := [17]) ?_
      refine tkC (fun K hK => ?_) AllReadyH.nil
      go_simp
      go_at_call 42
      refine (kwd w3 (hpA'.below in_okW.len (Below.then hBr hBw))).mono ?_
      rintro e w4 ⟨vw, rfl, hwo, hb⟩
      obtain ⟨va, vc, hvw, -, -, -⟩ := hwo.slice wd_okC.len
      subst hvw
      have hBw0 : wr.heap.size ≤ w3.heap.size := hBw.size
      have hneW : (Value.slice va (wordsN pp.is).length vc).ownBlock ≠ some gN := fun q => by have h9 := (hwo.lt q).1; have h8 := hz.2; omega
      have hneG : (Value.slice va (wordsN pp.is).length vc).ownBlock ≠ some gA := fun q => by have h9 := (hwo.lt q).1; have h8 : gA < w3.heap.size := (hgr.lt rfl).2; omega
      replace hBw := Below.then hBw hb
      replace hS := hS.then hb
      replace hch := hch.below hb
      replace hgr := hgr.below hb
      replace hz := stab_blk _ _ _ _ hz hb
      replace hwo : OwnR 2 1 wcl w4 wr.heap.size (Value.slice va (wordsN pp.is).length vc) (wordsN pp.is) := hwo.lower hBw0
      clear hb hBw0
      refine hK.out _ _ (⟨hS, hch⟩) ?_
      clear hHeld hK
      intro hHeld
      (try simp only [Act.put, zsA, zsB, zsC])
      refine tkA 18 ?_
      refine tkR (rs := [20]) ?_
      refine tkC (fun K hK => ?_) AllReadyH.nil
      obtain ⟨x0, hx0⟩ : ∃ x0 : PN, x0 = ⟨segX (D ++ slpS ++ dgS i) d1.n.label 7 ⟨4, 4, 4, 0⟩ (wordsN pp.is), some ⟨gA, 0, none⟩, 1, va, vc⟩ := ⟨_, rfl⟩
      have hxl : x0.cs.length = 16 := pn_len x0
      have hxs : (Tryz.prog.info? 36).map (·.size) = some x0.cs.length := by rw [hxl]; exact hszN
      obtain ⟨V9, hV9, hth9, hgo, hb9⟩ := put_any hz (ds := x0.cs) (by rw [hxl]; rfl) (by rw [hxl]; decide)
      refine step_store_rowC rfl _ _ rfl gN rfl x0.cs (by rw [hx0]; rfl) hth9 hxs (pn_one x0) hV9 ?_
      (try simp only [Act.put, zsA, zsB, zsC])
      have hk9 : ∀ j, j ≠ gN → V9.heap[j]? = w4.heap[j]? := fun j hj => by rw [← hV9]; exact heap_setCells_other hj _ _ _
      replace hBw := hb9 _ _ hwN hBw
      replace hS := hS00.then hBw
      replace hch : ChrAt V9 gC (48 + i) := hch.kept (hk9 _ (fun q => chr_ne hch hz q)) (hb9 0 w4 (Nat.zero_le _) (Below.refl _ _)).size
      replace hgr : OwnR 119 2 gcl V9 wr.heap.size x0.av x0.n.acl := by rw [hx0]; exact hgr.keep fun j hj => hk9 j (fun q => hneA (by rw [hj, q]))
      replace hwo : OwnR 2 1 wcl V9 wr.heap.size x0.wv x0.n.words := by rw [hx0]; exact hwo.keep fun j hj => hk9 j (fun q => hneW (by rw [hj, q]))
      replace hneA : x0.av.ownBlock ≠ some gN := by rw [hx0]; exact hneA
      replace hneW : x0.wv.ownBlock ≠ some gN := by rw [hx0]; exact hneW
      replace hneG : ∀ g, x0.wv.ownBlock = some g → x0.av.ownBlock ≠ some g := by rw [hx0]; exact fun g h9 h8 => hneG (by have h7 : gA = g := Option.some.inj h8; rw [h7]; exact h9)
      replace hx0 : Aside (x0.n = segX (D ++ slpS ++ dgS i) d1.n.label 7 ⟨4, 4, 4, 0⟩ (wordsN pp.is)) := by rw [hx0]; exact rfl
      clear hk9 hth9 hb9 hV9 hxs hxl hz
      refine hK.out _ _ (⟨hS, hch⟩) ?_
      clear hHeld hK
      intro hHeld
      (try simp only [Act.put, zsA, zsB, zsC])
      refine wpAnyH_done (by kernel_rfl) ?_ _
      clear hHeld
      go_wp2_with fail
      go_meet
      exact ⟨gN, x0, rfl, hBw, hgo, hwN, hx0.out, hgr, hwo, hneA, hneW, hneG⟩
     refine tkC (fun K hK => ?_) ?_
     ·go_simp
      go_at_call 42
      refine (kwd w1 (hpA'.below in_okW.len (Below.then hBr hBw))).mono ?_
      rintro e w2 ⟨vw, rfl, hwo, hb⟩
      obtain ⟨va, vc, hvw, -, -, -⟩ := hwo.slice wd_okC.len
      subst hvw
      have hBw0 : wr.heap.size ≤ w1.heap.size := hBw.size
      have hneG : (Value.slice va (wordsN pp.is).length vc).ownBlock ≠ some gA := fun q => by have h9 := (hwo.lt q).1; have h8 : gA < w1.heap.size := (hgr.lt rfl).2; omega
      replace hBw := Below.then hBw hb
      replace hS := hS.then hb
      replace hgr := hgr.below hb
      replace hwo : OwnR 2 1 wcl w2 wr.heap.size (Value.slice va (wordsN pp.is).length vc) (wordsN pp.is) := hwo.lower hBw0
      clear hb hBw0
      refine hK.out _ _ (hS) ?_
      clear hHeld hK
      intro hHeld
      (try simp only [Act.put, zsA, zsB, zsC])
      refine tkR (rs := [5, 19]) ?_
      refine tkC (fun K hK => ?_) ?_
      ·go_simp
       have hb := alloc_below w2 (.cells #[.int .u8 (48 + (i : Int))] 5)
       refine hK.out _ _ (hS.then hb) ?_
       clear hHeld hK
       intro hHeld
       have hch : ChrAt (w2.alloc (.cells #[.int .u8 (48 + (i : Int))] 5)) w2.heap.size (48 + i) := chr_made2 w2 i (by omega)
       replace hBw := Below.then hBw hb
       replace hS := hS.then hb
       replace hgr := hgr.below hb
       replace hwo := hwo.below hb
       generalize w2.alloc (.cells #[.int .u8 (48 + (i : Int))] 5) = w3 at *
       generalize w2.heap.size = gC at *
       clear hb
       refine wpAnyH_strong (S' := fun W => PX wr nd d1 yp i pp W ∧ ChrAt W gC (48 + i)) (fun _ h => h.1) ?_
       replace hHeld : PX wr nd d1 yp i pp w3 ∧ ChrAt w3 gC (48 + i) := ⟨hS, hch⟩
       (try simp only [Act.put, zsA, zsB, zsC])
       refine tkB 6 (y := yields_conv (by rfl) _ rfl rfl (fun _ s => s.2.conv)) (h := ?_)
       refine tkA 7 ?_
       refine tkA 18 ?_
       refine tkR (rs := [19]) ?_
       refine tkC (fun K hK => ?_) AllReadyH.nil
       have hb := alloc_below w3 (.cells ZNP 36)
       refine step_allocC (z := ZNP) rfl rfl (fun _ => rfl) ?_
       (try simp only [Act.put, zsA, zsB, zsC])
       refine hK.out _ _ (⟨hS.then hb, hch.below hb⟩) ?_
       clear hHeld hK
       intro hHeld
       have hz : BlkL w3.heap.size zeroP.cs (w3.alloc (.cells ZNP 36)) := blkl_alloc w3 ZNP 36
       have hwN : wr.heap.size ≤ w3.heap.size := hBw.size
       have hneA : (Value.slice (some ⟨gA, 0, none⟩) 1 1).ownBlock ≠ some w3.heap.size := fun q => by have h9 : gA = w3.heap.size := Option.some.inj q; have h8 : gA < w3.heap.size := (hgr.lt rfl).2; omega
       have hneW : (Value.slice va (wordsN pp.is).length vc).ownBlock ≠ some w3.heap.size := fun q => by have := (hwo.lt q).2; omega
       replace hBw := Below.then hBw hb
       replace hS := hS.then hb
       replace hch := hch.below hb
       replace hgr := hgr.below hb
       replace hwo := hwo.below hb
       generalize w3.alloc (.cells ZNP 36) = w4 at *
       generalize w3.heap.size = gN at *
       clear hb
       (try simp only [Act.put, zsA, zsB, zsC])
       refine tkR (rs := [20]) ?_
       refine tkC (fun K hK => ?_) AllReadyH.nil
       obtain ⟨x0, hx0⟩ : ∃ x0 : PN, x0 = ⟨segX (D ++ slpS ++ dgS i) d1.n.label 7 ⟨4, 4, 4, 0⟩ (wordsN pp.is), some ⟨gA, 0, none⟩, 1, va, vc⟩ := ⟨_, rfl⟩
       have hxl : x0.cs.length = 16 := pn_len x0
       have hxs : (Tryz.prog.info? 36).map (·.size) = some x0.cs.length := by rw [hxl]; exact hszN
       obtain ⟨V9, hV9, hth9, hgo, hb9⟩ := put_any hz (ds := x0.cs) (by rw [hxl]; rfl) (by rw [hxl]; decide)
       refine step_store_rowC rfl _ _ rfl gN rfl x0.cs (by rw [hx0]; rfl) hth9 hxs (pn_one x0) hV9 ?_
       (try simp only [Act.put, zsA, zsB, zsC])
       have hk9 : ∀ j, j ≠ gN → V9.heap[j]? = w4.heap[j]? := fun j hj => by rw [← hV9]; exact heap_setCells_other hj _ _ _
       replace hBw := hb9 _ _ hwN hBw
       replace hS := hS00.then hBw
       replace hch : ChrAt V9 gC (48 + i) := hch.kept (hk9 _ (fun q => chr_ne hch hz q)) (hb9 0 w4 (Nat.zero_le _) (Below.refl _ _)).size
       replace hgr : OwnR 119 2 gcl V9 wr.heap.size x0.av x0.n.acl := by rw [hx0]; exact hgr.keep fun j hj => hk9 j (fun q => hneA (by rw [hj, q]))
       replace hwo : OwnR 2 1 wcl V9 wr.heap.size x0.wv x0.n.words := by rw [hx0]; exact hwo.keep fun j hj => hk9 j (fun q => hneW (by rw [hj, q]))
       replace hneA : x0.av.ownBlock ≠ some gN := by rw [hx0]; exact hneA
       replace hneW : x0.wv.ownBlock ≠ some gN := by rw [hx0]; exact hneW
       replace hneG : ∀ g, x0.wv.ownBlock = some g → x0.av.ownBlock ≠ some g := by rw [hx0]; exact fun g h9 h8 => hneG (by have h7 : gA = g := Option.some.inj h8; rw [h7]; exact h9)
       replace hx0 : Aside (x0.n = segX (D ++ slpS ++ dgS i) d1.n.label 7 ⟨4, 4, 4, 0⟩ (wordsN pp.is)) := by rw [hx0]; exact rfl
       clear hk9 hth9 hb9 hV9 hxs hxl hz
       refine hK.out _ _ (⟨hS, hch⟩) ?_
       clear hHeld hK
       intro hHeld
       (try simp only [Act.put, zsA, zsB, zsC])
       refine wpAnyH_done (by kernel_rfl) ?_ _
       clear hHeld
       go_wp2_with fail
       go_meet
       exact ⟨gN, x0, rfl, hBw, hgo, hwN, hx0.out, hgr, hwo, hneA, hneW, hneG⟩
      refine tkC (fun K hK => ?_) AllReadyH.nil
      have hb := alloc_below w2 (.cells ZNP 36)
      refine step_allocC (z := ZNP) rfl rfl (fun _ => rfl) ?_
      (try simp only [Act.put, zsA, zsB, zsC])
      refine hK.out _ _ (hS.then hb) ?_
      clear hHeld hK
      intro hHeld
      have hz : BlkL w2.heap.size zeroP.cs (w2.alloc (.cells ZNP 36)) := blkl_alloc w2 ZNP 36
      have hwN : wr.heap.size ≤ w2.heap.size := hBw.size
      have hneA : (Value.slice (some ⟨gA, 0, none⟩) 1 1).ownBlock ≠ some w2.heap.size := fun q => by have h9 : gA = w2.heap.size := Option.some.inj q; have h8 : gA < w2.heap.size := (hgr.lt rfl).2; omega
      have hneW : (Value.slice va (wordsN pp.is).length vc).ownBlock ≠ some w2.heap.size := fun q => by have := (hwo.lt q).2; omega
      replace hBw := Below.then hBw hb
      replace hS := hS.then hb
      replace hgr := hgr.below hb
      replace hwo := hwo.below hb
      generalize w2.alloc (.cells ZNP 36) = w3 at *
      generalize w2.heap.size = gN at *
      clear hb
      (try simp only [Act.put, zsA, zsB, zsC])
      refine tkR (rs := [5]) ?_
      refine tkC (fun K hK => ?_) AllReadyH.nil
      go_simp
      have hb := alloc_below w3 (.cells #[.int .u8 (48 + (i : Int))] 5)
      refine hK.out _ _ (hS.then hb) ?_
      clear hHeld hK
      intro hHeld
      have hch : ChrAt (w3.alloc (.cells #[.int .u8 (48 + (i : Int))] 5)) w3.heap.size (48 + i) := chr_made2 w3 i (by omega)
      replace hBw := Below.then hBw hb
      replace hS := hS.then hb
      replace hgr := hgr.below hb
      replace hwo := hwo.below hb
      replace hz := stab_blk _ _ _ _ hz hb
      generalize w3.alloc (.cells #[.int .u8 (48 + (i : Int))] 5) = w4 at *
      generalize w3.heap.size = gC at *
      clear hb
      refine wpAnyH_strong (S' := fun W => PX wr nd d1 yp i pp W ∧ ChrAt W gC (48 + i)) (fun _ h => h.1) ?_
      replace hHeld : PX wr nd d1 yp i pp w4 ∧ ChrAt w4 gC (48 + i) := ⟨hS, hch⟩
      (try simp only [Act.put, zsA, zsB, zsC])
      refine tkB 6 (y := yields_conv (by rfl) _ rfl rfl (fun _ s => s.2.conv)) (h := ?_)
      refine tkA 7 ?_
      refine tkA 18 ?_
      refine tkR (rs := [20]) ?_
      refine tkC (fun K hK => ?_) AllReadyH.nil
      obtain ⟨x0, hx0⟩ : ∃ x0 : PN, x0 = ⟨segX (D ++ slpS ++ dgS i) d1.n.label 7 ⟨4, 4, 4, 0⟩ (wordsN pp.is), some ⟨gA, 0, none⟩, 1, va, vc⟩ := ⟨_, rfl⟩
      have hxl : x0.cs.length = 16 := pn_len x0
      have hxs : (Tryz.prog.info? 36).map (·.size) = some x0.cs.length := by rw [hxl]; exact hszN
      obtain ⟨V9, hV9, hth9, hgo, hb9⟩ := put_any hz (ds := x0.cs) (by rw [hxl]; rfl) (by rw [hxl]; decide)
      refine step_store_rowC rfl _ _ rfl gN rfl x0.cs (by rw [hx0]; rfl) hth9 hxs (pn_one x0) hV9 ?_
      (try simp only [Act.put, zsA, zsB, zsC])
      have hk9 : ∀ j, j ≠ gN → V9.heap[j]? = w4.heap[j]? := fun j hj => by rw [← hV9]; exact heap_setCells_other hj _ _ _
      replace hBw := hb9 _ _ hwN hBw
      replace hS := hS00.then hBw
      replace hch : ChrAt V9 gC (48 + i) := hch.kept (hk9 _ (fun q => chr_ne hch hz q)) (hb9 0 w4 (Nat.zero_le _) (Below.refl _ _)).size
      replace hgr : OwnR 119 2 gcl V9 wr.heap.size x0.av x0.n.acl := by rw [hx0]; exact hgr.keep fun j hj => hk9 j (fun q => hneA (by rw [hj, q]))
      replace hwo : OwnR 2 1 wcl V9 wr.heap.size x0.wv x0.n.words := by rw [hx0]; exact hwo.keep fun j hj => hk9 j (fun q => hneW (by rw [hj, q]))
      replace hneA : x0.av.ownBlock ≠ some gN := by rw [hx0]; exact hneA
      replace hneW : x0.wv.ownBlock ≠ some gN := by rw [hx0]; exact hneW
      replace hneG : ∀ g, x0.wv.ownBlock = some g → x0.av.ownBlock ≠ some g := by rw [hx0]; exact fun g h9 h8 => hneG (by have h7 : gA = g := Option.some.inj h8; rw [h7]; exact h9)
      replace hx0 : Aside (x0.n = segX (D ++ slpS ++ dgS i) d1.n.label 7 ⟨4, 4, 4, 0⟩ (wordsN pp.is)) := by rw [hx0]; exact rfl
      clear hk9 hth9 hb9 hV9 hxs hxl hz
      refine hK.out _ _ (⟨hS, hch⟩) ?_
      clear hHeld hK
      intro hHeld
      (try simp only [Act.put, zsA, zsB, zsC])
      refine wpAnyH_done (by kernel_rfl) ?_ _
      clear hHeld
      go_wp2_with fail
      go_meet
      exact ⟨gN, x0, rfl, hBw, hgo, hwN, hx0.out, hgr, hwo, hneA, hneW, hneG⟩
     refine tkC (fun K hK => ?_) AllReadyH.nil
     have hb := alloc_below w1 (.cells ZNP 36)
     refine step_allocC (z := ZNP) rfl rfl (fun _ => rfl) ?_
     (try simp only [Act.put, zsA, zsB, zsC])
     refine hK.out _ _ (hS.then hb) ?_
     clear hHeld hK
     intro hHeld
     have hz : BlkL w1.heap.size zeroP.cs (w1.alloc (.cells ZNP 36)) := blkl_alloc w1 ZNP 36
     have hwN : wr.heap.size ≤ w1.heap.size := hBw.size
     have hneA : (Value.slice (some ⟨gA, 0, none⟩) 1 1).ownBlock ≠ some w1.heap.size := fun q => by have h9 : gA = w1.heap.size := Option.some.inj q; have h8 : gA < w1.heap.size := (hgr.lt rfl).2; omega
     replace hBw := Below.then hBw hb
     replace hS := hS.then hb
     replace hgr := hgr.below hb
     generalize w1.alloc (.cells ZNP 36) = w2 at *
     generalize w1.heap.size = gN at *
     clear hb
     (try simp only [Act.put, zsA, zsB, zsC])
     refine tkR (rs := [5, 17]) ?_
     refine tkC (fun K hK => ?_) ?_
     ·go_simp
      have hb := alloc_below w2 (.cells #[.int .u8 (48 + (i : Int))] 5)
      refine hK.out _ _ (hS.then hb) ?_
      clear hHeld hK
      intro hHeld
      have hch : ChrAt (w2.alloc (.cells #[.int .u8 (48 + (i : Int))] 5)) w2.heap.size (48 + i) := chr_made2 w2 i (by omega)
      replace hBw := Below.then hBw hb
      replace hS := hS.then hb
      replace hgr := hgr.below hb
      replace hz := stab_blk _ _ _ _ hz hb
      generalize w2.alloc (.cells #[.int .u8 (48 + (i : Int))] 5) = w3 at *
      generalize w2.heap.size = gC at *
      clear hb
      refine wpAnyH_strong (S' := fun W => PX wr nd d1 yp i pp W ∧ ChrAt W gC (48 + i)) (fun _ h => h.1) ?_
      replace hHeld : PX wr nd d1 yp i pp w3 ∧ ChrAt w3 gC (48 + i) := ⟨hS, hch⟩
      (try simp only [Act.put, zsA, zsB, zsC])
      refine tkB 6 (y := yields_conv (by rfl) _ rfl rfl (fun _ s => s.2.conv)) (h := ?_)
      refine tkA 7 ?_
      refine tkR (rs := [17]) ?_
      refine tkC (fun K hK => ?_) AllReadyH.nil
      go_simp
      go_at_call 42
      refine (kwd w3 (hpA'.below in_okW.len (Below.then hBr hBw))).mono ?_
      rintro e w4 ⟨vw, rfl, hwo, hb⟩
      obtain ⟨va, vc, hvw, -, -, -⟩ := hwo.slice wd_okC.len
      subst hvw
      have hBw0 : wr.heap.size ≤ w3.heap.size := hBw.size
      have hneW : (Value.slice va (wordsN pp.is).length vc).ownBlock ≠ some gN := fun q => by have h9 := (hwo.lt q).1; have h8 := hz.2; omega
      have hneG : (Value.slice va (wordsN pp.is).length vc).ownBlock ≠ some gA := fun q => by have h9 := (hwo.lt q).1; have h8 : gA < w3.heap.size := (hgr.lt rfl).2; omega
      replace hBw := Below.then hBw hb
      replace hS := hS.then hb
      replace hch := hch.below hb
      replace hgr := hgr.below hb
      replace hz := stab_blk _ _ _ _ hz hb
      replace hwo : OwnR 2 1 wcl w4 wr.heap.size (Value.slice va (wordsN pp.is).length vc) (wordsN pp.is) := hwo.lower hBw0
      clear hb hBw0
      refine hK.out _ _ (⟨hS, hch⟩) ?_
      clear hHeld hK
      intro hHeld
      (try simp only [Act.put, zsA, zsB, zsC])
      refine tkA 18 ?_
      refine tkR (rs := [20]) ?_
      refine tkC (fun K hK => ?_) AllReadyH.nil
      obtain ⟨x0, hx0⟩ : ∃ x0 : PN, x0 = ⟨segX (D ++ slpS ++ dgS i) d1.n.label 7 ⟨4, 4, 4, 0⟩ (wordsN pp.is), some ⟨gA, 0, none⟩, 1, va, vc⟩ := ⟨_, rfl⟩
      have hxl : x0.cs.length = 16 := pn_len x0
      have hxs : (Tryz.prog.info? 36).map (·.size) = some x0.cs.length := by rw [hxl]; exact hszN
      obtain ⟨V9, hV9, hth9, hgo, hb9⟩ := put_any hz (ds := x0.cs) (by rw [hxl]; rfl) (by rw [hxl]; decide)
      refine step_store_rowC rfl _ _ rfl gN rfl x0.cs (by rw [hx0]; rfl) hth9 hxs (pn_one x0) hV9 ?_
      (try simp only [Act.put, zsA, zsB, zsC])
      have hk9 : ∀ j, j ≠ gN → V9.heap[j]? = w4.heap[j]? := fun j hj => by rw [← hV9]; exact heap_setCells_other hj _ _ _
      replace hBw := hb9 _ _ hwN hBw
      replace hS := hS00.then hBw
      replace hch : ChrAt V9 gC (48 + i) := hch.kept (hk9 _ (fun q => chr_ne hch hz q)) (hb9 0 w4 (Nat.zero_le _) (Below.refl _ _)).size
      replace hgr : OwnR 119 2 gcl V9 wr.heap.size x0.av x0.n.acl := by rw [hx0]; exact hgr.keep fun j hj => hk9 j (fun q => hneA (by rw [hj, q]))
      replace hwo : OwnR 2 1 wcl V9 wr.heap.size x0.wv x0.n.words := by rw [hx0]; exact hwo.keep fun j hj => hk9 j (fun q => hneW (by rw [hj, q]))
      replace hneA : x0.av.ownBlock ≠ some gN := by rw [hx0]; exact hneA
      replace hneW : x0.wv.ownBlock ≠ some gN := by rw [hx0]; exact hneW
      replace hneG : ∀ g, x0.wv.ownBlock = some g → x0.av.ownBlock ≠ some g := by rw [hx0]; exact fun g h9 h8 => hneG (by have h7 : gA = g := Option.some.inj h8; rw [h7]; exact h9)
      replace hx0 : Aside (x0.n = segX (D ++ slpS ++ dgS i) d1.n.label 7 ⟨4, 4, 4, 0⟩ (wordsN pp.is)) := by rw [hx0]; exact rfl
      clear hk9 hth9 hb9 hV9 hxs hxl hz
      refine hK.out _ _ (⟨hS, hch⟩) ?_
      clear hHeld hK
      intro hHeld
      (try simp only [Act.put, zsA, zsB, zsC])
      refine wpAnyH_done (by kernel_rfl) ?_ _
      clear hHeld
      go_wp2_with fail
      go_meet
      exact ⟨gN, x0, rfl, hBw, hgo, hwN, hx0.out, hgr, hwo, hneA, hneW, hneG⟩
     refine tkC (fun K hK => ?_) AllReadyH.nil
     go_simp
     go_at_call 42
     refine (kwd w2 (hpA'.below in_okW.len (Below.then hBr hBw))).mono ?_
     rintro e w3 ⟨vw, rfl, hwo, hb⟩
     obtain ⟨va, vc, hvw, -, -, -⟩ := hwo.slice wd_okC.len
     subst hvw
     have hBw0 : wr.heap.size ≤ w2.heap.size := hBw.size
     have hneW : (Value.slice va (wordsN pp.is).length vc).ownBlock ≠ some gN := fun q => by have h9 := (hwo.lt q).1; have h8 := hz.2; omega
     have hneG : (Value.slice va (wordsN pp.is).length vc).ownBlock ≠ some gA := fun q => by have h9 := (hwo.lt q).1; have h8 : gA < w2.heap.size := (hgr.lt rfl).2; omega
     replace hBw := Below.then hBw hb
     replace hS := hS.then hb
     replace hgr := hgr.below hb
     replace hz := stab_blk _ _ _ _ hz hb
     replace hwo : OwnR 2 1 wcl w3 wr.heap.size (Value.slice va (wordsN pp.is).length vc) (wordsN pp.is) := hwo.lower hBw0
     clear hb hBw0
     refine hK.out _ _ (hS) ?_
     clear hHeld hK
     intro hHeld
     (try simp only [Act.put, zsA, zsB, zsC])
     refine tkR (rs := [5]) ?_
     refine tkC (fun K hK => ?_) AllReadyH.nil
     go_simp
     have hb := alloc_below w3 (.cells #[.int .u8 (48 + (i : Int))] 5)
     refine hK.out _ _ (hS.then hb) ?_
     clear hHeld hK
     intro hHeld
     have hch : ChrAt (w3.alloc (.cells #[.int .u8 (48 + (i : Int))] 5)) w3.heap.size (48 + i) := chr_made2 w3 i (by omega)
     replace hBw := Below.then hBw hb
     replace hS := hS.then hb
     replace hgr := hgr.below hb
     replace hwo := hwo.below hb
     replace hz := stab_blk _ _ _ _ hz hb
     generalize w3.alloc (.cells #[.int .u8 (48 + (i : Int))] 5) = w4 at *
     generalize w3.heap.size = gC at *
     clear hb
     refine wpAnyH_strong (S' := fun W => PX wr nd d1 yp i pp W ∧ ChrAt W gC (48 + i)) (fun _ h => h.1) ?_
     replace hHeld : PX wr nd d1 yp i pp w4 ∧ ChrAt w4 gC (48 + i) := ⟨hS, hch⟩
     (try simp only [Act.put, zsA, zsB, zsC])
     refine tkB 6 (y := yields_conv (by rfl) _ rfl rfl (fun _ s => s.2.conv)) (h := ?_)
     refine tkA 7 ?_
     refine tkA 18 ?_
     refine tkR (rs := [20]) ?_
     refine tkC (fun K hK => ?_) AllReadyH.nil
     obtain ⟨x0, hx0⟩ : ∃ x0 : PN, x0 = ⟨segX (D ++ slpS ++ dgS i) d1.n.label 7 ⟨4, 4, 4, 0⟩ (wordsN pp.is), some ⟨gA, 0, none⟩, 1, va, vc⟩ := ⟨_, rfl⟩
     have hxl : x0.cs.length = 16 := pn_len x0
     have hxs : (Tryz.prog.info? 36).map (·.size) = some x0.cs.length := by rw [hxl]; exact hszN
     obtain ⟨V9, hV9, hth9, hgo, hb9⟩ := put_any hz (ds := x0.cs) (by rw [hxl]; rfl) (by rw [hxl]; decide)
     refine step_store_rowC rfl _ _ rfl gN rfl x0.cs (by rw [hx0]; rfl) hth9 hxs (pn_one x0) hV9 ?_
     (try simp only [Act.put, zsA, zsB, zsC])
     have hk9 : ∀ j, j ≠ gN → V9.heap[j]? = w4.heap[j]? := fun j hj => by rw [← hV9]; exact heap_setCells_other hj _ _ _
     replace hBw := hb9 _ _ hwN hBw
     replace hS := hS00.then hBw
     replace hch : ChrAt V9 gC (48 + i) := hch.kept (hk9 _ (fun q => chr_ne hch hz q)) (hb9 0 w4 (Nat.zero_le _) (Below.refl _ _)).size
     replace hgr : OwnR 119 2 gcl V9 wr.heap.size x0.av x0.n.acl := by rw [hx0]; exact hgr.keep fun j hj => hk9 j (fun q => hneA (by rw [hj, q]))
     replace hwo : OwnR 2 1 wcl V9 wr.heap.size x0.wv x0.n.words := by rw [hx0]; exact hwo.keep fun j hj => hk9 j (fun q => hneW (by rw [hj, q]))
     replace hneA : x0.av.ownBlock ≠ some gN := by rw [hx0]; exact hneA
     replace hneW : x0.wv.ownBlock ≠ some gN := by rw [hx0]; exact hneW
     replace hneG : ∀ g, x0.wv.ownBlock = some g → x0.av.ownBlock ≠ some g := by rw [hx0]; exact fun g h9 h8 => hneG (by have h7 : gA = g := Option.some.inj h8; rw [h7]; exact h9)
     replace hx0 : Aside (x0.n = segX (D ++ slpS ++ dgS i) d1.n.label 7 ⟨4, 4, 4, 0⟩ (wordsN pp.is)) := by rw [hx0]; exact rfl
     clear hk9 hth9 hb9 hV9 hxs hxl hz
     refine hK.out _ _ (⟨hS, hch⟩) ?_
     clear hHeld hK
     intro hHeld
     (try simp only [Act.put, zsA, zsB, zsC])
     refine wpAnyH_done (by kernel_rfl) ?_ _
     clear hHeld
     go_wp2_with fail
     go_meet
     exact ⟨gN, x0, rfl, hBw, hgo, hwN, hx0.out, hgr, hwo, hneA, hneW, hneG⟩
    refine tkC (fun K hK => ?_) ?_
    ·go_simp
     go_at_call 42
     refine (kwd w0 (hpA'.below in_okW.len (Below.then hBr hBw))).mono ?_
     rintro e w1 ⟨vw, rfl, hwo, hb⟩
     obtain ⟨va, vc, hvw, -, -, -⟩ := hwo.slice wd_okC.len
     subst hvw
     have hBw0 : wr.heap.size ≤ w0.heap.size := hBw.size
     replace hBw := Below.then hBw hb
     replace hS := hS.then hb
     replace hwo : OwnR 2 1 wcl w1 wr.heap.size (Value.slice va (wordsN pp.is).length vc) (wordsN pp.is) := hwo.lower hBw0
     clear hb hBw0
     refine hK.out _ _ (hS) ?_
     clear hHeld hK
     intro hHeld
     (try simp only [Act.put, zsA, zsB, zsC])
     refine tkR (rs := [5, 11, 19]) ?_
     refine tkC (fun K hK => ?_) ?_
     ·go_simp
      have hb := alloc_below w1 (.cells #[.int .u8 (48 + (i : Int))] 5)
      refine hK.out _ _ (hS.then hb) ?_
      clear hHeld hK
      intro hHeld
      have hch : ChrAt (w1.alloc (.cells #[.int .u8 (48 + (i : Int))] 5)) w1.heap.size (48 + i) := chr_made2 w1 i (by omega)
      replace hBw := Below.then hBw hb
      replace hS := hS.then hb
      replace hwo := hwo.below hb
      generalize w1.alloc (.cells #[.int .u8 (48 + (i : Int))] 5) = w2 at *
      generalize w1.heap.size = gC at *
      clear hb
      refine wpAnyH_strong (S' := fun W => PX wr nd d1 yp i pp W ∧ ChrAt W gC (48 + i)) (fun _ h => h.1) ?_
      replace hHeld : PX wr nd d1 yp i pp w2 ∧ ChrAt w2 gC (48 + i) := ⟨hS, hch⟩
      (try simp only [Act.put, zsA, zsB, zsC])
      refine tkB 6 (y := yields_conv (by rfl) _ rfl rfl (fun _ s => s.2.conv)) (h := ?_)
      refine tkA 7 ?_
      refine tkR (rs := [11, 19]) ?_
      refine tkC (fun K hK => ?_) ?_
      ·skip
       have hb := alloc_below w2 (.cells (gcl ⟨starS, 7⟩).toArray 119)
       refine step_build1 gr_okT (by decide) rfl _ rfl (gcl ⟨starS, 7⟩) rfl rfl ?_
       (try simp only [Act.put, zsA, zsB, zsC])
       refine hK.out _ _ (⟨hS.then hb, hch.below hb⟩) ?_
       clear hHeld hK
       intro hHeld
       have hgr : OwnR 119 2 gcl (w2.alloc (.cells (gcl ⟨starS, 7⟩).toArray 119)) wr.heap.size (.slice (some ⟨w2.heap.size, 0, none⟩) 1 1) [⟨starS, 7⟩] := own_oneP gr_okT w2 hBw.size ⟨starS, 7⟩
       have hneG : (Value.slice va (wordsN pp.is).length vc).ownBlock ≠ some w2.heap.size := fun q => by have := (hwo.lt q).2; omega
       replace hBw := Below.then hBw hb
       replace hS := hS.then hb
       replace hch := hch.below hb
       replace hwo := hwo.below hb
       generalize w2.alloc (.cells (gcl ⟨starS, 7⟩).toArray 119) = w3 at *
       generalize w2.heap.size = gA at *
       clear hb
       (try simp only [Act.put, zsA, zsB, zsC])
       refine tkA 18 ?_
       refine tkR (rs := [19]) ?_
       refine tkC (fun K hK => ?_) AllReadyH.nil
       have hb := alloc_below w3 (.cells ZNP 36)
       refine step_allocC (z := ZNP) rfl rfl (fun _ => rfl) ?_
       (try simp only [Act.put, zsA, zsB, zsC])
       refine hK.out _ _ (⟨hS.then hb, hch.below hb⟩) ?_
       clear hHeld hK
       intro hHeld
       have hz : BlkL w3.heap.size zeroP.cs (w3.alloc (.cells ZNP 36)) := blkl_alloc w3 ZNP 36
       have hwN : wr.heap.size ≤ w3.heap.size := hBw.size
       have hneA : (Value.slice (some ⟨gA, 0, none⟩) 1 1).ownBlock ≠ some w3.heap.size := fun q => by have h9 : gA = w3.heap.size := Option.some.inj q; have h8 : gA < w3.heap.size := (hgr.lt rfl).2; omega
       have hneW : (Value.slice va (wordsN pp.is).length vc).ownBlock ≠ some w3.heap.size := fun q => by have := (hwo.lt q).2; omega
       replace hBw := Below.then hBw hb
       replace hS := hS.then hb
       replace hch := hch.below hb
       replace hgr := hgr.below hb
       replace hwo := hwo.below hb
       generalize w3.alloc (.cells ZNP 36) = w4 at *
       generalize w3.heap.size = gN at *
       clear hb
       (try simp only [Act.put, zsA, zsB, zsC])
       refine tkR (rs := [20]) ?_
       refine tkC (fun K hK => ?_) AllReadyH.nil
       obtain ⟨x0, hx0⟩ : ∃ x0 : PN, x0 = ⟨segX (D ++ slpS ++ dgS i) d1.n.label 7 ⟨4, 4, 4, 0⟩ (wordsN pp.is), some ⟨gA, 0, none⟩, 1, va, vc⟩ := ⟨_, rfl⟩
       have hxl : x0.cs.length = 16 := pn_len x0
       have hxs : (Tryz.prog.info? 36).map (·.size) = some x0.cs.length := by rw [hxl]; exact hszN
       obtain ⟨V9, hV9, hth9, hgo, hb9⟩ := put_any hz (ds := x0.cs) (by rw [hxl]; rfl) (by rw [hxl]; decide)
       refine step_store_rowC rfl _ _ rfl gN rfl x0.cs (by rw [hx0]; rfl) hth9 hxs (pn_one x0) hV9 ?_
       (try simp only [Act.put, zsA, zsB, zsC])
       have hk9 : ∀ j, j ≠ gN → V9.heap[j]? = w4.heap[j]? := fun j hj => by rw [← hV9]; exact heap_setCells_other hj _ _ _
       replace hBw := hb9 _ _ hwN hBw
       replace hS := hS00.then hBw
       replace hch : ChrAt V9 gC (48 + i) := hch.kept (hk9 _ (fun q => chr_ne hch hz q)) (hb9 0 w4 (Nat.zero_le _) (Below.refl _ _)).size
       replace hgr : OwnR 119 2 gcl V9 wr.heap.size x0.av x0.n.acl := by rw [hx0]; exact hgr.keep fun j hj => hk9 j (fun q => hneA (by rw [hj, q]))
       replace hwo : OwnR 2 1 wcl V9 wr.heap.size x0.wv x0.n.words := by rw [hx0]; exact hwo.keep fun j hj => hk9 j (fun q => hneW (by rw [hj, q]))
       replace hneA : x0.av.ownBlock ≠ some gN := by rw [hx0]; exact hneA
       replace hneW : x0.wv.ownBlock ≠ some gN := by rw [hx0]; exact hneW
       replace hneG : ∀ g, x0.wv.ownBlock = some g → x0.av.ownBlock ≠ some g := by rw [hx0]; exact fun g h9 h8 => hneG (by have h7 : gA = g := Option.some.inj h8; rw [h7]; exact h9)
       replace hx0 : Aside (x0.n = segX (D ++ slpS ++ dgS i) d1.n.label 7 ⟨4, 4, 4, 0⟩ (wordsN pp.is)) := by rw [hx0]; exact rfl
       clear hk9 hth9 hb9 hV9 hxs hxl hz
       refine hK.out _ _ (⟨hS, hch⟩) ?_
       clear hHeld hK
       intro hHeld
       (try simp only [Act.put, zsA, zsB, zsC])
       refine wpAnyH_done (by kernel_rfl) ?_ _
       clear hHeld
       go_wp2_with fail
       go_meet
       exact ⟨gN, x0, rfl, hBw, hgo, hwN, hx0.out, hgr, hwo, hneA, hneW, hneG⟩
      refine tkC (fun K hK => ?_) AllReadyH.nil
      have hb := alloc_below w2 (.cells ZNP 36)
      refine step_allocC (z := ZNP) rfl rfl (fun _ => rfl) ?_
      (try simp only [Act.put, zsA, zsB, zsC])
      refine hK.out _ _ (⟨hS.then hb, hch.below hb⟩) ?_
      clear hHeld hK
      intro hHeld
      have hz : BlkL w2.heap.size zeroP.cs (w2.alloc (.cells ZNP 36)) := blkl_alloc w2 ZNP 36
      have hwN : wr.heap.size ≤ w2.heap.size := hBw.size
      have hneW : (Value.slice va (wordsN pp.is).length vc).ownBlock ≠ some w2.heap.size := fun q => by have := (hwo.lt q).2; omega
      replace hBw := Below.then hBw hb
      replace hS := hS.then hb
      replace hch := hch.below hb
      replace hwo := hwo.below hb
      generalize w2.alloc (.cells ZNP 36) = w3 at *
      generalize w2.heap.size = gN at *
      clear hb
      (try simp only [Act.put, zsA, zsB, zsC])
      refine tkR (rs := [11]) ?_
      refine tkC (fun K hK => ?_) AllReadyH.nil
      have hb := alloc_below w3 (.cells (gcl ⟨starS, 7⟩).toArray 119)
      refine step_build1 gr_okT (by decide) rfl _ rfl (gcl ⟨starS, 7⟩) rfl rfl ?_
      (try simp only [Act.put, zsA, zsB, zsC])
      refine hK.out _ _ (⟨hS.then hb, hch.below hb⟩) ?_
      clear hHeld hK
      intro hHeld
      have hgr : OwnR 119 2 gcl (w3.alloc (.cells (gcl ⟨starS, 7⟩).toArray 119)) wr.heap.size (.slice (some ⟨w3.heap.size, 0, none⟩) 1 1) [⟨starS, 7⟩] := own_oneP gr_okT w3 hBw.size ⟨starS, 7⟩
      have hneA : (Value.slice (some ⟨w3.heap.size, 0, none⟩) 1 1).ownBlock ≠ some gN := fun q => by have h9 : w3.heap.size = gN := Option.some.inj q; have h8 := hz.2; omega
      have hneG : (Value.slice va (wordsN pp.is).length vc).ownBlock ≠ some w3.heap.size := fun q => by have := (hwo.lt q).2; omega
      replace hBw := Below.then hBw hb
      replace hS := hS.then hb
      replace hch := hch.below hb
      replace hwo := hwo.below hb
      replace hz := stab_blk _ _ _ _ hz hb
      generalize w3.alloc (.cells (gcl ⟨starS, 7⟩).toArray 119) = w4 at *
      generalize w3.heap.size = gA at *
      clear hb
      (try simp only [Act.put, zsA, zsB, zsC])
      refine tkA 18 ?_
      refine tkR (rs := [20]) ?_
      refine tkC (fun K hK => ?_) AllReadyH.nil
      obtain ⟨x0, hx0⟩ : ∃ x0 : PN, x0 = ⟨segX (D ++ slpS ++ dgS i) d1.n.label 7 ⟨4, 4, 4, 0⟩ (wordsN pp.is), some ⟨gA, 0, none⟩, 1, va, vc⟩ := ⟨_, rfl⟩
      have hxl : x0.cs.length = 16 := pn_len x0
      have hxs : (Tryz.prog.info? 36).map (·.size) = some x0.cs.length := by rw [hxl]; exact hszN
      obtain ⟨V9, hV9, hth9, hgo, hb9⟩ := put_any hz (ds := x0.cs) (by rw [hxl]; rfl) (by rw [hxl]; decide)
      refine step_store_rowC rfl _ _ rfl gN rfl x0.cs (by rw [hx0]; rfl) hth9 hxs (pn_one x0) hV9 ?_
      (try simp only [Act.put, zsA, zsB, zsC])
      have hk9 : ∀ j, j ≠ gN → V9.heap[j]? = w4.heap[j]? := fun j hj => by rw [← hV9]; exact heap_setCells_other hj _ _ _
      replace hBw := hb9 _ _ hwN hBw
      replace hS := hS00.then hBw
      replace hch : ChrAt V9 gC (48 + i) := hch.kept (hk9 _ (fun q => chr_ne hch hz q)) (hb9 0 w4 (Nat.zero_le _) (Below.refl _ _)).size
      replace hgr : OwnR 119 2 gcl V9 wr.heap.size x0.av x0.n.acl := by rw [hx0]; exact hgr.keep fun j hj => hk9 j (fun q => hneA (by rw [hj, q]))
      replace hwo : OwnR 2 1 wcl V9 wr.heap.size x0.wv x0.n.words := by rw [hx0]; exact hwo.keep fun j hj => hk9 j (fun q => hneW (by rw [hj, q]))
      replace hneA : x0.av.ownBlock ≠ some gN := by rw [hx0]; exact hneA
      replace hneW : x0.wv.ownBlock ≠ some gN := by rw [hx0]; exact hneW
      replace hneG : ∀ g, x0.wv.ownBlock = some g → x0.av.ownBlock ≠ some g := by rw [hx0]; exact fun g h9 h8 => hneG (by have h7 : gA = g := Option.some.inj h8; rw [h7]; exact h9)
      replace hx0 : Aside (x0.n = segX (D ++ slpS ++ dgS i) d1.n.label 7 ⟨4, 4, 4, 0⟩ (wordsN pp.is)) := by rw [hx0]; exact rfl
      clear hk9 hth9 hb9 hV9 hxs hxl hz
      refine hK.out _ _ (⟨hS, hch⟩) ?_
      clear hHeld hK
      intro hHeld
      (try simp only [Act.put, zsA, zsB, zsC])
      refine wpAnyH_done (by kernel_rfl) ?_ _
      clear hHeld
      go_wp2_with fail
      go_meet
      exact ⟨gN, x0, rfl, hBw, hgo, hwN, hx0.out, hgr, hwo, hneA, hneW, hneG⟩
     refine tkC (fun K hK => ?_) ?_
     ·skip
      have hb := alloc_below w1 (.cells (gcl ⟨starS, 7⟩).toArray 119)
      refine step_build1 gr_okT (by decide) rfl _ rfl (gcl ⟨starS, 7⟩) rfl rfl ?_
      (try simp only [Act.put, zsA, zsB, zsC])
      refine hK.out _ _ (hS.then hb) ?_
      clear hHeld hK
      intro hHeld
      have hgr : OwnR 119 2 gcl (w1.alloc (.cells (gcl ⟨starS, 7⟩).toArray 119)) wr.heap.size (.slice (some ⟨w1.heap.size, 0, none⟩) 1 1) [⟨starS, 7⟩] := own_oneP gr_okT w1 hBw.size ⟨starS, 7⟩
      have hneG : (Value.slice va (wordsN pp.is).length vc).ownBlock ≠ some w1.heap.size := fun q => by have := (hwo.lt q).2; omega
      replace hBw := Below.then hBw hb
      replace hS := hS.then hb
      replace hwo := hwo.below hb
      generalize w1.alloc (.cells (gcl ⟨starS, 7⟩).toArray 119) = w2 at *
      generalize w1.heap.size = gA at *
      clear hb
      (try simp only [Act.put, zsA, zsB, zsC])
      refine tkR (rs := [5, 19]) ?_
      refine tkC (fun K hK => ?_) ?_
      ·go_simp
       have hb := alloc_below w2 (.cells #[.int .u8 (48 + (i : Int))] 5)
       refine hK.out _ _ (hS.then hb) ?_
       clear hHeld hK
       intro hHeld
       have hch : ChrAt (w2.alloc (.cells #[.int .u8 (48 + (i : Int))] 5)) w2.heap.size (48 + i) := chr_made2 w2 i (by omega)
       replace hBw := Below.then hBw hb
       replace hS := hS.then hb
       replace hgr := hgr.below hb
       replace hwo := hwo.below hb
       generalize w2.alloc (.cells #[.int .u8 (48 + (i : Int))] 5) = w3 at *
       generalize w2.heap.size = gC at *
       clear hb
       refine wpAnyH_strong (S' := fun W => PX wr nd d1 yp i pp W ∧ ChrAt W gC (48 + i)) (fun _ h => h.1) ?_
       replace hHeld : PX wr nd d1 yp i pp w3 ∧ ChrAt w3 gC (48 + i) := ⟨hS, hch⟩
       (try simp only [Act.put, zsA, zsB, zsC])
       refine tkB 6 (y := yields_conv (by rfl) _ rfl rfl (fun _ s => s.2.conv)) (h := ?_)
       refine tkA 7 ?_
       refine tkA 18 ?_
       refine tkR (rs := [19]) ?_
       refine tkC (fun K hK => ?_) AllReadyH.nil
       have hb := alloc_below w3 (.cells ZNP 36)
       refine step_allocC (z := ZNP) rfl rfl (fun _ => rfl) ?_
       (try simp only [Act.put, zsA, zsB, zsC])
       refine hK.out _ _ (⟨hS.then hb, hch.below hb⟩) ?_
       clear hHeld hK
       intro hHeld
       have hz : BlkL w3.heap.size zeroP.cs (w3.alloc (.cells ZNP 36)) := blkl_alloc w3 ZNP 36
       have hwN : wr.heap.size ≤ w3.heap.size := hBw.size
       have hneA : (Value.slice (some ⟨gA, 0, none⟩) 1 1).ownBlock ≠ some w3.heap.size := fun q => by have h9 : gA = w3.heap.size := Option.some.inj q; have h8 : gA < w3.heap.size := (hgr.lt rfl).2; omega
       have hneW : (Value.slice va (wordsN pp.is).length vc).ownBlock ≠ some w3.heap.size := fun q => by have := (hwo.lt q).2; omega
       replace hBw := Below.then hBw hb
       replace hS := hS.then hb
       replace hch := hch.below hb
       replace hgr := hgr.below hb
       replace hwo := hwo.below hb
       generalize w3.alloc (.cells ZNP 36) = w4 at *
       generalize w3.heap.size = gN at *
       clear hb
       (try simp only [Act.put, zsA, zsB, zsC])
       refine tkR (rs := [20]) ?_
       refine tkC (fun K hK => ?_) AllReadyH.nil
       obtain ⟨x0, hx0⟩ : ∃ x0 : PN, x0 = ⟨segX (D ++ slpS ++ dgS i) d1.n.label 7 ⟨4, 4, 4, 0⟩ (wordsN pp.is), some ⟨gA, 0, none⟩, 1, va, vc⟩ := ⟨_, rfl⟩
       have hxl : x0.cs.length = 16 := pn_len x0
       have hxs : (Tryz.prog.info? 36).map (·.size) = some x0.cs.length := by rw [hxl]; exact hszN
       obtain ⟨V9, hV9, hth9, hgo, hb9⟩ := put_any hz (ds := x0.cs) (by rw [hxl]; rfl) (by rw [hxl]; decide)
       refine step_store_rowC rfl _ _ rfl gN rfl x0.cs (by rw [hx0]; rfl) hth9 hxs (pn_one x0) hV9 ?_
       (try simp only [Act.put, zsA, zsB, zsC])
       have hk9 : ∀ j, j ≠ gN → V9.heap[j]? = w4.heap[j]? := fun j hj => by rw [← hV9]; exact heap_setCells_other hj _ _ _
       replace hBw := hb9 _ _ hwN hBw
       replace hS := hS00.then hBw
       replace hch : ChrAt V9 gC (48 + i) := hch.kept (hk9 _ (fun q => chr_ne hch hz q)) (hb9 0 w4 (Nat.zero_le _) (Below.refl _ _)).size
       replace hgr : OwnR 119 2 gcl V9 wr.heap.size x0.av x0.n.acl := by rw [hx0]; exact hgr.keep fun j hj => hk9 j (fun q => hneA (by rw [hj, q]))
       replace hwo : OwnR 2 1 wcl V9 wr.heap.size x0.wv x0.n.words := by rw [hx0]; exact hwo.keep fun j hj => hk9 j (fun q => hneW (by rw [hj, q]))
       replace hneA : x0.av.ownBlock ≠ some gN := by rw [hx0]; exact hneA
       replace hneW : x0.wv.ownBlock ≠ some gN := by rw [hx0]; exact hneW
       replace hneG : ∀ g, x0.wv.ownBlock = some g → x0.av.ownBlock ≠ some g := by rw [hx0]; exact fun g h9 h8 => hneG (by have h7 : gA = g := Option.some.inj h8; rw [h7]; exact h9)
       replace hx0 : Aside (x0.n = segX (D ++ slpS ++ dgS i) d1.n.label 7 ⟨4, 4, 4, 0⟩ (wordsN pp.is)) := by rw [hx0]; exact rfl
       clear hk9 hth9 hb9 hV9 hxs hxl hz
       refine hK.out _ _ (⟨hS, hch⟩) ?_
       clear hHeld hK
       intro hHeld
       (try simp only [Act.put, zsA, zsB, zsC])
       refine wpAnyH_done (by kernel_rfl) ?_ _
       clear hHeld
       go_wp2_with fail
       go_meet
       exact ⟨gN, x0, rfl, hBw, hgo, hwN, hx0.out, hgr, hwo, hneA, hneW, hneG⟩
      refine tkC (fun K hK => ?_) AllReadyH.nil
      have hb := alloc_below w2 (.cells ZNP 36)
      refine step_allocC (z := ZNP) rfl rfl (fun _ => rfl) ?_
      (try simp only [Act.put, zsA, zsB, zsC])
      refine hK.out _ _ (hS.then hb) ?_
      clear hHeld hK
      intro hHeld
      have hz : BlkL w2.heap.size zeroP.cs (w2.alloc (.cells ZNP 36)) := blkl_alloc w2 ZNP 36
      have hwN : wr.heap.size ≤ w2.heap.size := hBw.size
      have hneA : (Value.slice (some ⟨gA, 0, none⟩) 1 1).ownBlock ≠ some w2.heap.size := fun q => by have h9 : gA = w2.heap.size := Option.some.inj q; have h8 : gA < w2.heap.size := (hgr.lt rfl).2; omega
      have hneW : (Value.slice va (wordsN pp.is).length vc).ownBlock ≠ some w2.heap.size := fun q => by have := (hwo.lt q).2; omega
      replace hBw := Below.then hBw hb
      replace hS := hS.then hb
      replace hgr := hgr.below hb
      replace hwo := hwo.below hb
      generalize w2.alloc (.cells ZNP 36) = w3 at *
      generalize w2.heap.size = gN at *
      clear hb
      (try simp only [Act.put, zsA, zsB, zsC])
      refine tkR (rs := [5]) ?_
      refine tkC (fun K hK => ?_) AllReadyH.nil
      go_simp
      have hb := alloc_below w3 (.cells #[.int .u8 (48 + (i : Int))] 5)
      refine hK.out _ _ (hS.then hb) ?_
      clear hHeld hK
      intro hHeld
      have hch : ChrAt (w3.alloc (.cells #[.int .u8 (48 + (i : Int))] 5)) w3.heap.size (48 + i) := chr_made2 w3 i (by omega)
      replace hBw := Below.then hBw hb
      replace hS := hS.then hb
      replace hgr := hgr.below hb
      replace hwo := hwo.below hb
      replace hz := stab_blk _ _ _ _ hz hb
      generalize w3.alloc (.cells #[.int .u8 (48 + (i : Int))] 5) = w4 at *
      generalize w3.heap.size = gC at *
      clear hb
      refine wpAnyH_strong (S' := fun W => PX wr nd d1 yp i pp W ∧ ChrAt W gC (48 + i)) (fun _ h => h.1) ?_
      replace hHeld : PX wr nd d1 yp i pp w4 ∧ ChrAt w4 gC (48 + i) := ⟨hS, hch⟩
      (try simp only [Act.put, zsA, zsB, zsC])
      refine tkB 6 (y := yields_conv (by rfl) _ rfl rfl (fun _ s => s.2.conv)) (h := ?_)
      refine tkA 7 ?_
      refine tkA 18 ?_
      refine tkR (rs := [20]) ?_
      refine tkC (fun K hK => ?_) AllReadyH.nil
      obtain ⟨x0, hx0⟩ : ∃ x0 : PN, x0 = ⟨segX (D ++ slpS ++ dgS i) d1.n.label 7 ⟨4, 4, 4, 0⟩ (wordsN pp.is), some ⟨gA, 0, none⟩, 1, va, vc⟩ := ⟨_, rfl⟩
      have hxl : x0.cs.length = 16 := pn_len x0
      have hxs : (Tryz.prog.info? 36).map (·.size) = some x0.cs.length := by rw [hxl]; exact hszN
      obtain ⟨V9, hV9, hth9, hgo, hb9⟩ := put_any hz (ds := x0.cs) (by rw [hxl]; rfl) (by rw [hxl]; decide)
      refine step_store_rowC rfl _ _ rfl gN rfl x0.cs (by rw [hx0]; rfl) hth9 hxs (pn_one x0) hV9 ?_
      (try simp only [Act.put, zsA, zsB, zsC])
      have hk9 : ∀ j, j ≠ gN → V9.heap[j]? = w4.heap[j]? := fun j hj => by rw [← hV9]; exact heap_setCells_other hj _ _ _
      replace hBw := hb9 _ _ hwN hBw
      replace hS := hS00.then hBw
      replace hch : ChrAt V9 gC (48 + i) := hch.kept (hk9 _ (fun q => chr_ne hch hz q)) (hb9 0 w4 (Nat.zero_le _) (Below.refl _ _)).size
      replace hgr : OwnR 119 2 gcl V9 wr.heap.size x0.av x0.n.acl := by rw [hx0]; exact hgr.keep fun j hj => hk9 j (fun q => hneA (by rw [hj, q]))
      replace hwo : OwnR 2 1 wcl V9 wr.heap.size x0.wv x0.n.words := by rw [hx0]; exact hwo.keep fun j hj => hk9 j (fun q => hneW (by rw [hj, q]))
      replace hneA : x0.av.ownBlock ≠ some gN := by rw [hx0]; exact hneA
      replace hneW : x0.wv.ownBlock ≠ some gN := by rw [hx0]; exact hneW
      replace hneG : ∀ g, x0.wv.ownBlock = some g → x0.av.ownBlock ≠ some g := by rw [hx0]; exact fun g h9 h8 => hneG (by have h7 : gA = g := Option.some.inj h8; rw [h7]; exact h9)
      replace hx0 : Aside (x0.n = segX (D ++ slpS ++ dgS i) d1.n.label 7 ⟨4, 4, 4, 0⟩ (wordsN pp.is)) := by rw [hx0]; exact rfl
      clear hk9 hth9 hb9 hV9 hxs hxl hz
      refine hK.out _ _ (⟨hS, hch⟩) ?_
      clear hHeld hK
      intro hHeld
      (try simp only [Act.put, zsA, zsB, zsC])
      refine wpAnyH_done (by kernel_rfl) ?_ _
      clear hHeld
      go_wp2_with fail
      go_meet
      exact ⟨gN, x0, rfl, hBw, hgo, hwN, hx0.out, hgr, hwo, hneA, hneW, hneG⟩
     refine tkC (fun K hK => ?_) AllReadyH.nil
     have hb := alloc_below w1 (.cells ZNP 36)
     refine step_allocC (z := ZNP) rfl rfl (fun _ => rfl) ?_
     (try simp only [Act.put, zsA, zsB, zsC])
     refine hK.out _ _ (hS.then hb) ?_
     clear hHeld hK
     intro hHeld
     have hz : BlkL w1.heap.size zeroP.cs (w1.alloc (.cells ZNP 36)) := blkl_alloc w1 ZNP 36
     have hwN : wr.heap.size ≤ w1.heap.size := hBw.size
     have hneW : (Value.slice va (wordsN pp.is).length vc).ownBlock ≠ some w1.heap.size := fun q => by have := (hwo.lt q).2; omega
     replace hBw := Below.then hBw hb
     replace hS := hS.then hb
     replace hwo := hwo.below hb
     generalize w1.alloc (.cells ZNP 36) = w2 at *
     generalize w1.heap.size = gN at *
     clear hb
     (try simp only [Act.put, zsA, zsB, zsC])
     refine tkR (rs := [5, 11]) ?_
     refine tkC (fun K hK => ?_) ?_
     ·go_simp
      have hb := alloc_below w2 (.cells #[.int .u8 (48 + (i : Int))] 5)
      refine hK.out _ _ (hS.then hb) ?_
      clear hHeld hK
      intro hHeld
      have hch : ChrAt (w2.alloc (.cells #[.int .u8 (48 + (i : Int))] 5)) w2.heap.size (48 + i) := chr_made2 w2 i (by omega)
      replace hBw := Below.then hBw hb
      replace hS := hS.then hb
      replace hwo := hwo.below hb
      replace hz := stab_blk _ _ _ _ hz hb
      generalize w2.alloc (.cells #[.int .u8 (48 + (i : Int))] 5) = w3 at *
      generalize w2.heap.size = gC at *
      clear hb
      refine wpAnyH_strong (S' := fun W => PX wr nd d1 yp i pp W ∧ ChrAt W gC (48 + i)) (fun _ h => h.1) ?_
      replace hHeld : PX wr nd d1 yp i pp w3 ∧ ChrAt w3 gC (48 + i) := ⟨hS, hch⟩
      (try simp only [Act.put, zsA, zsB, zsC])
      refine tkB 6 (y := yields_conv (by rfl) _ rfl rfl (fun _ s => s.2.conv)) (h := ?_)
      refine tkA 7 ?_
      refine tkR (rs := [11]) ?_
      refine tkC (fun K hK => ?_) AllReadyH.nil
      have hb := alloc_below w3 (.cells (gcl ⟨starS, 7⟩).toArray 119)
      refine step_build1 gr_okT (by decide) rfl _ rfl (gcl ⟨starS, 7⟩) rfl rfl ?_
      (try simp only [Act.put, zsA, zsB, zsC])
      refine hK.out _ _ (⟨hS.then hb, hch.below hb⟩) ?_
      clear hHeld hK
      intro hHeld
      have hgr : OwnR 119 2 gcl (w3.alloc (.cells (gcl ⟨starS, 7⟩).toArray 119)) wr.heap.size (.slice (some ⟨w3.heap.size, 0, none⟩) 1 1) [⟨starS, 7⟩] := own_oneP gr_okT w3 hBw.size ⟨starS, 7⟩
      have hneA : (Value.slice (some ⟨w3.heap.size, 0, none⟩) 1 1).ownBlock ≠ some gN := fun q => by have h9 : w3.heap.size = gN := Option.some.inj q; have h8 := hz.2; omega
      have hneG : (Value.slice va (wordsN pp.is).length vc).ownBlock ≠ some w3.heap.size := fun q => by have := (hwo.lt q).2; omega
      replace hBw := Below.then hBw hb
      replace hS := hS.then hb
      replace hch := hch.below hb
      replace hwo := hwo.below hb
      replace hz := stab_blk _ _ _ _ hz hb
      generalize w3.alloc (.cells (gcl ⟨starS, 7⟩).toArray 119) = w4 at *
      generalize w3.heap.size = gA at *
      clear hb
      (try simp only [Act.put, zsA, zsB, zsC])
      refine tkA 18 ?_
      refine tkR (rs := [20]) ?_
      refine tkC (fun K hK => ?_) AllReadyH.nil
      obtain ⟨x0, hx0⟩ : ∃ x0 : PN, x0 = ⟨segX (D ++ slpS ++ dgS i) d1.n.label 7 ⟨4, 4, 4, 0⟩ (wordsN pp.is), some ⟨gA, 0, none⟩, 1, va, vc⟩ := ⟨_, rfl⟩
      have hxl : x0.cs.length = 16 := pn_len x0
      have hxs : (Tryz.prog.info? 36).map (·.size) = some x0.cs.length := by rw [hxl]; exact hszN
      obtain ⟨V9, hV9, hth9, hgo, hb9⟩ := put_any hz (ds := x0.cs) (by rw [hxl]; rfl) (by rw [hxl]; decide)
      refine step_store_rowC rfl _ _ rfl gN rfl x0.cs (by rw [hx0]; rfl) hth9 hxs (pn_one x0) hV9 ?_
      (try simp only [Act.put, zsA, zsB, zsC])
      have hk9 : ∀ j, j ≠ gN → V9.heap[j]? = w4.heap[j]? := fun j hj => by rw [← hV9]; exact heap_setCells_other hj _ _ _
      replace hBw := hb9 _ _ hwN hBw
      replace hS := hS00.then hBw
      replace hch : ChrAt V9 gC (48 + i) := hch.kept (hk9 _ (fun q => chr_ne hch hz q)) (hb9 0 w4 (Nat.zero_le _) (Below.refl _ _)).size
      replace hgr : OwnR 119 2 gcl V9 wr.heap.size x0.av x0.n.acl := by rw [hx0]; exact hgr.keep fun j hj => hk9 j (fun q => hneA (by rw [hj, q]))
      replace hwo : OwnR 2 1 wcl V9 wr.heap.size x0.wv x0.n.words := by rw [hx0]; exact hwo.keep fun j hj => hk9 j (fun q => hneW (by rw [hj, q]))
      replace hneA : x0.av.ownBlock ≠ some gN := by rw [hx0]; exact hneA
      replace hneW : x0.wv.ownBlock ≠ some gN := by rw [hx0]; exact hneW
      replace hneG : ∀ g, x0.wv.ownBlock = some g → x0.av.ownBlock ≠ some g := by rw [hx0]; exact fun g h9 h8 => hneG (by have h7 : gA = g := Option.some.inj h8; rw [h7]; exact h9)
      replace hx0 : Aside (x0.n = segX (D ++ slpS ++ dgS i) d1.n.label 7 ⟨4, 4, 4, 0⟩ (wordsN pp.is)) := by rw [hx0]; exact rfl
      clear hk9 hth9 hb9 hV9 hxs hxl hz
      refine hK.out _ _ (⟨hS, hch⟩) ?_
      clear hHeld hK
      intro hHeld
      (try simp only [Act.put, zsA, zsB, zsC])
      refine wpAnyH_done (by kernel_rfl) ?_ _
      clear hHeld
      go_wp2_with fail
      go_meet
      exact ⟨gN, x0, rfl, hBw, hgo, hwN, hx0.out, hgr, hwo, hneA, hneW, hneG⟩
     refine tkC (fun K hK => ?_) AllReadyH.nil
     have hb := alloc_below w2 (.cells (gcl ⟨starS, 7⟩).toArray 119)
     refine step_build1 gr_okT (by decide) rfl _ rfl (gcl ⟨starS, 7⟩) rfl rfl ?_
     (try simp only [Act.put, zsA, zsB, zsC])
     refine hK.out _ _ (hS.then hb) ?_
     clear hHeld hK
     intro hHeld
     have hgr : OwnR 119 2 gcl (w2.alloc (.cells (gcl ⟨starS, 7⟩).toArray 119)) wr.heap.size (.slice (some ⟨w2.heap.size, 0, none⟩) 1 1) [⟨starS, 7⟩] := own_oneP gr_okT w2 hBw.size ⟨starS, 7⟩
     have hneA : (Value.slice (some ⟨w2.heap.size, 0, none⟩) 1 1).ownBlock ≠ some gN := fun q => by have h9 : w2.heap.size = gN := Option.some.inj q; have h8 := hz.2; omega
     have hneG : (Value.slice va (wordsN pp.is).length vc).ownBlock ≠ some w2.heap.size := fun q => by have := (hwo.lt q).2; omega
     replace hBw := Below.then hBw hb
     replace hS := hS.then hb
     replace hwo := hwo.below hb
     replace hz := stab_blk _ _ _ _ hz hb
     generalize w2.alloc (.cells (gcl ⟨starS, 7⟩).toArray 119) = w3 at *
     generalize w2.heap.size = gA at *
     clear hb
     (try simp only [Act.put, zsA, zsB, zsC])
     refine tkR (rs := [5]) ?_
     refine tkC (fun K hK => ?_) AllReadyH.nil
     go_simp
     have hb := alloc_below w3 (.cells #[.int .u8 (48 + (i : Int))] 5)
     refine hK.out _ _ (hS.then hb) ?_
     clear hHeld hK
     intro hHeld
     have hch : ChrAt (w3.alloc (.cells #[.int .u8 (48 + (i : Int))] 5)) w3.heap.size (48 + i) := chr_made2 w3 i (by omega)
     replace hBw := Below.then hBw hb
     replace hS := hS.then hb
     replace hgr := hgr.below hb
     replace hwo := hwo.below hb
     replace hz := stab_blk _ _ _ _ hz hb
     generalize w3.alloc (.cells #[.int .u8 (48 + (i : Int))] 5) = w4 at *
     generalize w3.heap.size = gC at *
     clear hb
     refine wpAnyH_strong (S' := fun W => PX wr nd d1 yp i pp W ∧ ChrAt W gC (48 + i)) (fun _ h => h.1) ?_
     replace hHeld : PX wr nd d1 yp i pp w4 ∧ ChrAt w4 gC (48 + i) := ⟨hS, hch⟩
     (try simp only [Act.put, zsA, zsB, zsC])
     refine tkB 6 (y := yields_conv (by rfl) _ rfl rfl (fun _ s => s.2.conv)) (h := ?_)
     refine tkA 7 ?_
     refine tkA 18 ?_
     refine tkR (rs := [20]) ?_
     refine tkC (fun K hK => ?_) AllReadyH.nil
     obtain ⟨x0, hx0⟩ : ∃ x0 : PN, x0 = ⟨segX (D ++ slpS ++ dgS i) d1.n.label 7 ⟨4, 4, 4, 0⟩ (wordsN pp.is), some ⟨gA, 0, none⟩, 1, va, vc⟩ := ⟨_, rfl⟩
     have hxl : x0.cs.length = 16 := pn_len x0
     have hxs : (Tryz.prog.info? 36).map (·.size) = some x0.cs.length := by rw [hxl]; exact hszN
     obtain ⟨V9, hV9, hth9, hgo, hb9⟩ := put_any hz (ds := x0.cs) (by rw [hxl]; rfl) (by rw [hxl]; decide)
     refine step_store_rowC rfl _ _ rfl gN rfl x0.cs (by rw [hx0]; rfl) hth9 hxs (pn_one x0) hV9 ?_
     (try simp only [Act.put, zsA, zsB, zsC])
     have hk9 : ∀ j, j ≠ gN → V9.heap[j]? = w4.heap[j]? := fun j hj => by rw [← hV9]; exact heap_setCells_other hj _ _ _
     replace hBw := hb9 _ _ hwN hBw
     replace hS := hS00.then hBw
     replace hch : ChrAt V9 gC (48 + i) := hch.kept (hk9 _ (fun q => chr_ne hch hz q)) (hb9 0 w4 (Nat.zero_le _) (Below.refl _ _)).size
     replace hgr : OwnR 119 2 gcl V9 wr.heap.size x0.av x0.n.acl := by rw [hx0]; exact hgr.keep fun j hj => hk9 j (fun q => hneA (by rw [hj, q]))
     replace hwo : OwnR 2 1 wcl V9 wr.heap.size x0.wv x0.n.words := by rw [hx0]; exact hwo.keep fun j hj => hk9 j (fun q => hneW (by rw [hj, q]))
     replace hneA : x0.av.ownBlock ≠ some gN := by rw [hx0]; exact hneA
     replace hneW : x0.wv.ownBlock ≠ some gN := by rw [hx0]; exact hneW
     replace hneG : ∀ g, x0.wv.ownBlock = some g → x0.av.ownBlock ≠ some g := by rw [hx0]; exact fun g h9 h8 => hneG (by have h7 : gA = g := Option.some.inj h8; rw [h7]; exact h9)
     replace hx0 : Aside (x0.n = segX (D ++ slpS ++ dgS i) d1.n.label 7 ⟨4, 4, 4, 0⟩ (wordsN pp.is)) := by rw [hx0]; exact rfl
     clear hk9 hth9 hb9 hV9 hxs hxl hz
     refine hK.out _ _ (⟨hS, hch⟩) ?_
     clear hHeld hK
     intro hHeld
     (try simp only [Act.put, zsA, zsB, zsC])
     refine wpAnyH_done (by kernel_rfl) ?_ _
     clear hHeld
     go_wp2_with fail
     go_meet
     exact ⟨gN, x0, rfl, hBw, hgo, hwN, hx0.out, hgr, hwo, hneA, hneW, hneG⟩
    refine tkC (fun K hK => ?_) AllReadyH.nil
    have hb := alloc_below w0 (.cells ZNP 36)
    refine step_allocC (z := ZNP) rfl rfl (fun _ => rfl) ?_
    (try simp only [Act.put, zsA, zsB, zsC])
    refine hK.out _ _ (hS.then hb) ?_
    clear hHeld hK
    intro hHeld
    have hz : BlkL w0.heap.size zeroP.cs (w0.alloc (.cells ZNP 36)) := blkl_alloc w0 ZNP 36
    have hwN : wr.heap.size ≤ w0.heap.size := hBw.size
    replace hBw := Below.then hBw hb
    replace hS := hS.then hb
    generalize w0.alloc (.cells ZNP 36) = w1 at *
    generalize w0.heap.size = gN at *
    clear hb
    (try simp only [Act.put, zsA, zsB, zsC])
    refine tkR (rs := [5, 11, 17]) ?_
    refine tkC (fun K hK => ?_) ?_
    ·go_simp
     have hb := alloc_below w1 (.cells #[.int .u8 (48 + (i : Int))] 5)
     refine hK.out _ _ (hS.then hb) ?_
     clear hHeld hK
     intro hHeld
     have hch : ChrAt (w1.alloc (.cells #[.int .u8 (48 + (i : Int))] 5)) w1.heap.size (48 + i) := chr_made2 w1 i (by omega)
     replace hBw := Below.then hBw hb
     replace hS := hS.then hb
     replace hz := stab_blk _ _ _ _ hz hb
     generalize w1.alloc (.cells #[.int .u8 (48 + (i : Int))] 5) = w2 at *
     generalize w1.heap.size = gC at *
     clear hb
     refine wpAnyH_strong (S' := fun W => PX wr nd d1 yp i pp W ∧ ChrAt W gC (48 + i)) (fun _ h => h.1) ?_
     replace hHeld : PX wr nd d1 yp i pp w2 ∧ ChrAt w2 gC (48 + i) := ⟨hS, hch⟩
     (try simp only [Act.put, zsA, zsB, zsC])
     refine tkB 6 (y := yields_conv (by rfl) _ rfl rfl (fun _ s => s.2.conv)) (h := ?_)
     refine tkA 7 ?_
     refine tkR (rs := [11, 17]) ?_
     refine tkC (fun K hK => ?_) ?_
     ·skip
      have hb := alloc_below w2 (.cells (gcl ⟨starS, 7⟩).toArray 119)
      refine step_build1 gr_okT (by decide) rfl _ rfl (gcl ⟨starS, 7⟩) rfl rfl ?_
      (try simp only [Act.put, zsA, zsB, zsC])
      refine hK.out _ _ (⟨hS.then hb, hch.below hb⟩) ?_
      clear hHeld hK
      intro hHeld
      have hgr : OwnR 119 2 gcl (w2.alloc (.cells (gcl ⟨starS, 7⟩).toArray 119)) wr.heap.size (.slice (some ⟨w2.heap.size, 0, none⟩) 1 1) [⟨starS, 7⟩] := own_oneP gr_okT w2 hBw.size ⟨starS, 7⟩
      have hneA : (Value.slice (some ⟨w2.heap.size, 0, none⟩) 1 1).ownBlock ≠ some gN := fun q => by have h9 : w2.heap.size = gN := Option.some.inj q; have h8 := hz.2; omega
      replace hBw := Below.then hBw hb
      replace hS := hS.then hb
      replace hch := hch.below hb
      replace hz := stab_blk _ _ _ _ hz hb
      generalize w2.alloc (.cells (gcl ⟨starS, 7⟩).toArray 119) = w3 at *
      generalize w2.heap.size = gA at *
      clear hb
      (try simp only [Act.put, zsA, zsB, zsC])
      refine tkR (rs := [17]) ?_
      refine tkC (fun K hK => ?_) AllReadyH.nil
      go_simp
      go_at_call 42
      refine (kwd w3 (hpA'.below in_okW.len (Below.then hBr hBw))).mono ?_
      rintro e w4 ⟨vw, rfl, hwo, hb⟩
      obtain ⟨va, vc, hvw, -, -, -⟩ := hwo.slice wd_okC.len
      subst hvw
      have hBw0 : wr.heap.size ≤ w3.heap.size := hBw.size
      have hneW : (Value.slice va (wordsN pp.is).length vc).ownBlock ≠ some gN := fun q => by have h9 := (hwo.lt q).1; have h8 := hz.2; omega
      have hneG : (Value.slice va (wordsN pp.is).length vc).ownBlock ≠ some gA := fun q => by have h9 := (hwo.lt q).1; have h8 : gA < w3.heap.size := (hgr.lt rfl).2; omega
      replace hBw := Below.then hBw hb
      replace hS := hS.then hb
      replace hch := hch.below hb
      replace hgr := hgr.below hb
      replace hz := stab_blk _ _ _ _ hz hb
      replace hwo : OwnR 2 1 wcl w4 wr.heap.size (Value.slice va (wordsN pp.is).length vc) (wordsN pp.is) := hwo.lower hBw0
      clear hb hBw0
      refine hK.out _ _ (⟨hS, hch⟩) ?_
      clear hHeld hK
      intro hHeld
      (try simp only [Act.put, zsA, zsB, zsC])
      refine tkA 18 ?_
      refine tkR (rs := [20]) ?_
      refine tkC (fun K hK => ?_) AllReadyH.nil
      obtain ⟨x0, hx0⟩ : ∃ x0 : PN, x0 = ⟨segX (D ++ slpS ++ dgS i) d1.n.label 7 ⟨4, 4, 4, 0⟩ (wordsN pp.is), some ⟨gA, 0, none⟩, 1, va, vc⟩ := ⟨_, rfl⟩
      have hxl : x0.cs.length = 16 := pn_len x0
      have hxs : (Tryz.prog.info? 36).map (·.size) = some x0.cs.length := by rw [hxl]; exact hszN
      obtain ⟨V9, hV9, hth9, hgo, hb9⟩ := put_any hz (ds := x0.cs) (by rw [hxl]; rfl) (by rw [hxl]; decide)
      refine step_store_rowC rfl _ _ rfl gN rfl x0.cs (by rw [hx0]; rfl) hth9 hxs (pn_one x0) hV9 ?_
      (try simp only [Act.put, zsA, zsB, zsC])
      have hk9 : ∀ j, j ≠ gN → V9.heap[j]? = w4.heap[j]? := fun j hj => by rw [← hV9]; exact heap_setCells_other hj _ _ _
      replace hBw := hb9 _ _ hwN hBw
      replace hS := hS00.then hBw
      replace hch : ChrAt V9 gC (48 + i) := hch.kept (hk9 _ (fun q => chr_ne hch hz q)) (hb9 0 w4 (Nat.zero_le _) (Below.refl _ _)).size
      replace hgr : OwnR 119 2 gcl V9 wr.heap.size x0.av x0.n.acl := by rw [hx0]; exact hgr.keep fun j hj => hk9 j (fun q => hneA (by rw [hj, q]))
      replace hwo : OwnR 2 1 wcl V9 wr.heap.size x0.wv x0.n.words := by rw [hx0]; exact hwo.keep fun j hj => hk9 j (fun q => hneW (by rw [hj, q]))
      replace hneA : x0.av.ownBlock ≠ some gN := by rw [hx0]; exact hneA
      replace hneW : x0.wv.ownBlock ≠ some gN := by rw [hx0]; exact hneW
      replace hneG : ∀ g, x0.wv.ownBlock = some g → x0.av.ownBlock ≠ some g := by rw [hx0]; exact fun g h9 h8 => hneG (by have h7 : gA = g := Option.some.inj h8; rw [h7]; exact h9)
      replace hx0 : Aside (x0.n = segX (D ++ slpS ++ dgS i) d1.n.label 7 ⟨4, 4, 4, 0⟩ (wordsN pp.is)) := by rw [hx0]; exact rfl
      clear hk9 hth9 hb9 hV9 hxs hxl hz
      refine hK.out _ _ (⟨hS, hch⟩) ?_
      clear hHeld hK
      intro hHeld
      (try simp only [Act.put, zsA, zsB, zsC])
      refine wpAnyH_done (by kernel_rfl) ?_ _
      clear hHeld
      go_wp2_with fail
      go_meet
      exact ⟨gN, x0, rfl, hBw, hgo, hwN, hx0.out, hgr, hwo, hneA, hneW, hneG⟩
     refine tkC (fun K hK => ?_) AllReadyH.nil
     go_simp
     go_at_call 42
     refine (kwd w2 (hpA'.below in_okW.len (Below.then hBr hBw))).mono ?_
     rintro e w3 ⟨vw, rfl, hwo, hb⟩
     obtain ⟨va, vc, hvw, -, -, -⟩ := hwo.slice wd_okC.len
     subst hvw
     have hBw0 : wr.heap.size ≤ w2.heap.size := hBw.size
     have hneW : (Value.slice va (wordsN pp.is).length vc).ownBlock ≠ some gN := fun q => by have h9 := (hwo.lt q).1; have h8 := hz.2; omega
     replace hBw := Below.then hBw hb
     replace hS := hS.then hb
     replace hch := hch.below hb
     replace hz := stab_blk _ _ _ _ hz hb
     replace hwo : OwnR 2 1 wcl w3 wr.heap.size (Value.slice va (wordsN pp.is).length vc) (wordsN pp.is) := hwo.lower hBw0
     clear hb hBw0
     refine hK.out _ _ (⟨hS, hch⟩) ?_
     clear hHeld hK
     intro hHeld
     (try simp only [Act.put, zsA, zsB, zsC])
     refine tkR (rs := [11]) ?_
     refine tkC (fun K hK => ?_) AllReadyH.nil
     have hb := alloc_below w3 (.cells (gcl ⟨starS, 7⟩).toArray 119)
     refine step_build1 gr_okT (by decide) rfl _ rfl (gcl ⟨starS, 7⟩) rfl rfl ?_
     (try simp only [Act.put, zsA, zsB, zsC])
     refine hK.out _ _ (⟨hS.then hb, hch.below hb⟩) ?_
     clear hHeld hK
     intro hHeld
     have hgr : OwnR 119 2 gcl (w3.alloc (.cells (gcl ⟨starS, 7⟩).toArray 119)) wr.heap.size (.slice (some ⟨w3.heap.size, 0, none⟩) 1 1) [⟨starS, 7⟩] := own_oneP gr_okT w3 hBw.size ⟨starS, 7⟩
     have hneA : (Value.slice (some ⟨w3.heap.size, 0, none⟩) 1 1).ownBlock ≠ some gN := fun q => by have h9 : w3.heap.size = gN := Option.some.inj q; have h8 := hz.2; omega
     have hneG : (Value.slice va (wordsN pp.is).length vc).ownBlock ≠ some w3.heap.size := fun q => by have := (hwo.lt q).2; omega
     replace hBw := Below.then hBw hb
     replace hS := hS.then hb
     replace hch := hch.below hb
     replace hwo := hwo.below hb
     replace hz := stab_blk _ _ _ _ hz hb
     generalize w3.alloc (.cells (gcl ⟨starS, 7⟩).toArray 119) = w4 at *
     generalize w3.heap.size = gA at *
     clear hb
     (try simp only [Act.put, zsA, zsB, zsC])
     refine tkA 18 ?_
     refine tkR (rs := [20]) ?_
     refine tkC (fun K hK => ?_) AllReadyH.nil
     obtain ⟨x0, hx0⟩ : ∃ x0 : PN, x0 = ⟨segX (D ++ slpS ++ dgS i) d1.n.label 7 ⟨4, 4, 4, 0⟩ (wordsN pp.is), some ⟨gA, 0, none⟩, 1, va, vc⟩ := ⟨_, rfl⟩
     have hxl : x0.cs.length = 16 := pn_len x0
     have hxs : (Tryz.prog.info? 36).map (·.size) = some x0.cs.length := by rw [hxl]; exact hszN
     obtain ⟨V9, hV9, hth9, hgo, hb9⟩ := put_any hz (ds := x0.cs) (by rw [hxl]; rfl) (by rw [hxl]; decide)
     refine step_store_rowC rfl _ _ rfl gN rfl x0.cs (by rw [hx0]; rfl) hth9 hxs (pn_one x0) hV9 ?_
     (try simp only [Act.put, zsA, zsB, zsC])
     have hk9 : ∀ j, j ≠ gN → V9.heap[j]? = w4.heap[j]? := fun j hj => by rw [← hV9]; exact heap_setCells_other hj _ _ _
     replace hBw := hb9 _ _ hwN hBw
     replace hS := hS00.then hBw
     replace hch : ChrAt V9 gC (48 + i) := hch.kept (hk9 _ (fun q => chr_ne hch hz q)) (hb9 0 w4 (Nat.zero_le _) (Below.refl _ _)).size
     replace hgr : OwnR 119 2 gcl V9 wr.heap.size x0.av x0.n.acl := by rw [hx0]; exact hgr.keep fun j hj => hk9 j (fun q => hneA (by rw [hj, q]))
     replace hwo : OwnR 2 1 wcl V9 wr.heap.size x0.wv x0.n.words := by rw [hx0]; exact hwo.keep fun j hj => hk9 j (fun q => hneW (by rw [hj, q]))
     replace hneA : x0.av.ownBlock ≠ some gN := by rw [hx0]; exact hneA
     replace hneW : x0.wv.ownBlock ≠ some gN := by rw [hx0]; exact hneW
     replace hneG : ∀ g, x0.wv.ownBlock = some g → x0.av.ownBlock ≠ some g := by rw [hx0]; exact fun g h9 h8 => hneG (by have h7 : gA = g := Option.some.inj h8; rw [h7]; exact h9)
     replace hx0 : Aside (x0.n = segX (D ++ slpS ++ dgS i) d1.n.label 7 ⟨4, 4, 4, 0⟩ (wordsN pp.is)) := by rw [hx0]; exact rfl
     clear hk9 hth9 hb9 hV9 hxs hxl hz
     refine hK.out _ _ (⟨hS, hch⟩) ?_
     clear hHeld hK
     intro hHeld
     (try simp only [Act.put, zsA, zsB, zsC])
     refine wpAnyH_done (by kernel_rfl) ?_ _
     clear hHeld
     go_wp2_with fail
     go_meet
     exact ⟨gN, x0, rfl, hBw, hgo, hwN, hx0.out, hgr, hwo, hneA, hneW, hneG⟩
    refine tkC (fun K hK => ?_) ?_
    ·skip
     have hb := alloc_below w1 (.cells (gcl ⟨starS, 7⟩).toArray 119)
     refine step_build1 gr_okT (by decide) rfl _ rfl (gcl ⟨starS, 7⟩) rfl rfl ?_
     (try simp only [Act.put, zsA, zsB, zsC])
     refine hK.out _ _ (hS.then hb) ?_
     clear hHeld hK
     intro hHeld
     have hgr : OwnR 119 2 gcl (w1.alloc (.cells (gcl ⟨starS, 7⟩).toArray 119)) wr.heap.size (.slice (some ⟨w1.heap.size, 0, none⟩) 1 1) [⟨starS, 7⟩] := own_oneP gr_okT w1 hBw.size ⟨starS, 7⟩
     have hneA : (Value.slice (some ⟨w1.heap.size, 0, none⟩) 1 1).ownBlock ≠ some gN := fun q => by have h9 : w1.heap.size = gN := Option.some.inj q; have h8 := hz.2; omega
     replace hBw := Below.then hBw hb
     replace hS := hS.then hb
     replace hz := stab_blk _ _ _ _ hz hb
     generalize w1.alloc (.cells (gcl ⟨starS, 7⟩).toArray 119) = w2 at *
     generalize w1.heap.size = gA at *
     clear hb
     (try simp only [Act.put, zsA, zsB, zsC])
     refine tkR (rs := [5, 17]) ?_
     refine tkC (fun K hK => ?_) ?_
     ·go_simp
      have hb := alloc_below w2 (.cells #[.int .u8 (48 + (i : Int))] 5)
      refine hK.out _ _ (hS.then hb) ?_
      clear hHeld hK
      intro hHeld
      have hch : ChrAt (w2.alloc (.cells #[.int .u8 (48 + (i : Int))] 5)) w2.heap.size (48 + i) := chr_made2 w2 i (by omega)
      replace hBw := Below.then hBw hb
      replace hS := hS.then hb
      replace hgr := hgr.below hb
      replace hz := stab_blk _ _ _ _ hz hb
      generalize w2.alloc (.cells #[.int .u8 (48 + (i : Int))] 5) = w3 at *
      generalize w2.heap.size = gC at *
      clear hb
      refine wpAnyH_strong (S' := fun W => PX wr nd d1 yp i pp W ∧ ChrAt W gC (48 + i)) (fun _ h => h.1) ?_
      replace hHeld : PX wr nd d1 yp i pp w3 ∧ ChrAt w3 gC (48 + i) := ⟨hS, hch⟩
      (try simp only [Act.put, zsA, zsB, zsC])
      refine tkB 6 (y := yields_conv (by rfl) _ rfl rfl (fun _ s => s.2.conv)) (h := ?_)
      refine tkA 7 ?_
      refine tkR (rs := [17]) ?_
      refine tkC (fun K hK => ?_) AllReadyH.nil
      go_simp
      go_at_call 42
      refine (kwd w3 (hpA'.below in_okW.len (Below.then hBr hBw))).mono ?_
      rintro e w4 ⟨vw, rfl, hwo, hb⟩
      obtain ⟨va, vc, hvw, -, -, -⟩ := hwo.slice wd_okC.len
      subst hvw
      have hBw0 : wr.heap.size ≤ w3.heap.size := hBw.size
      have hneW : (Value.slice va (wordsN pp.is).length vc).ownBlock ≠ some gN := fun q => by have h9 := (hwo.lt q).1; have h8 := hz.2; omega
      have hneG : (Value.slice va (wordsN pp.is).length vc).ownBlock ≠ some gA := fun q => by have h9 := (hwo.lt q).1; have h8 : gA < w3.heap.size := (hgr.lt rfl).2; omega
      replace hBw := Below.then hBw hb
      replace hS := hS.then hb
      replace hch := hch.below hb
      replace hgr := hgr.below hb
      replace hz := stab_blk _ _ _ _ hz hb
      replace hwo : OwnR 2 1 wcl w4 wr.heap.size (Value.slice va (wordsN pp.is).length vc) (wordsN pp.is) := hwo.lower hBw0
      clear hb hBw0
      refine hK.out _ _ (⟨hS, hch⟩) ?_
      clear hHeld hK
      intro hHeld
      (try simp only [Act.put, zsA, zsB, zsC])
      refine tkA 18 ?_
      refine tkR (rs := [20]) ?_
      refine tkC (fun K hK => ?_) AllReadyH.nil
      obtain ⟨x0, hx0⟩ : ∃ x0 : PN, x0 = ⟨segX (D ++ slpS ++ dgS i) d1.n.label 7 ⟨4, 4, 4, 0⟩ (wordsN pp.is), some ⟨gA, 0, none⟩, 1, va, vc⟩ := ⟨_, rfl⟩
      have hxl : x0.cs.length = 16 := pn_len x0
      have hxs : (Tryz.prog.info? 36).map (·.size) = some x0.cs.length := by rw [hxl]; exact hszN
      obtain ⟨V9, hV9, hth9, hgo, hb9⟩ := put_any hz (ds := x0.cs) (by rw [hxl]; rfl) (by rw [hxl]; decide)
      refine step_store_rowC rfl _ _ rfl gN rfl x0.cs (by rw [hx0]; rfl) hth9 hxs (pn_one x0) hV9 ?_
      (try simp only [Act.put, zsA, zsB, zsC])
      have hk9 : ∀ j, j ≠ gN → V9.heap[j]? = w4.heap[j]? := fun j hj => by rw [← hV9]; exact heap_setCells_other hj _ _ _
      replace hBw := hb9 _ _ hwN hBw
      replace hS := hS00.then hBw
      replace hch : ChrAt V9 gC (48 + i) := hch.kept (hk9 _ (fun q => chr_ne hch hz q)) (hb9 0 w4 (Nat.zero_le _) (Below.refl _ _)).size
      replace hgr : OwnR 119 2 gcl V9 wr.heap.size x0.av x0.n.acl := by rw [hx0]; exact hgr.keep fun j hj => hk9 j (fun q => hneA (by rw [hj, q]))
      replace hwo : OwnR 2 1 wcl V9 wr.heap.size x0.wv x0.n.words := by rw [hx0]; exact hwo.keep fun j hj => hk9 j (fun q => hneW (by rw [hj, q]))
      replace hneA : x0.av.ownBlock ≠ some gN := by rw [hx0]; exact hneA
      replace hneW : x0.wv.ownBlock ≠ some gN := by rw [hx0]; exact hneW
      replace hneG : ∀ g, x0.wv.ownBlock = some g → x0.av.ownBlock ≠ some g := by rw [hx0]; exact fun g h9 h8 => hneG (by have h7 : gA = g := Option.some.inj h8; rw [h7]; exact h9)
      replace hx0 : Aside (x0.n = segX (D ++ slpS ++ dgS i) d1.n.label 7 ⟨4, 4, 4, 0⟩ (wordsN pp.is)) := by rw [hx0]; exact rfl
      clear hk9 hth9 hb9 hV9 hxs hxl hz
      refine hK.out _ _ (⟨hS, hch⟩) ?_
      clear hHeld hK
      intro hHeld
      (try simp only [Act.put, zsA, zsB, zsC])
      refine wpAnyH_done (by kernel_rfl) ?_ _
      clear hHeld
      go_wp2_with fail
      go_meet
      exact ⟨gN, x0, rfl, hBw, hgo, hwN, hx0.out, hgr, hwo, hneA, hneW, hneG⟩
     refine tkC (fun K hK => ?_) AllReadyH.nil
     go_simp
     go_at_call 42
     refine (kwd w2 (hpA'.below in_okW.len (Below.then hBr hBw))).mono ?_
     rintro e w3 ⟨vw, rfl, hwo, hb⟩
     obtain ⟨va, vc, hvw, -, -, -⟩ := hwo.slice wd_okC.len
     subst hvw
     have hBw0 : wr.heap.size ≤ w2.heap.size := hBw.size
     have hneW : (Value.slice va (wordsN pp.is).length vc).ownBlock ≠ some gN := fun q => by have h9 := (hwo.lt q).1; have h8 := hz.2; omega
     have hneG : (Value.slice va (wordsN pp.is).length vc).ownBlock ≠ some gA := fun q => by have h9 := (hwo.lt q).1; have h8 : gA < w2.heap.size := (hgr.lt rfl).2; omega
     replace hBw := Below.then hBw hb
     replace hS := hS.then hb
     replace hgr := hgr.below hb
     replace hz := stab_blk _ _ _ _ hz hb
     replace hwo : OwnR 2 1 wcl w3 wr.heap.size (Value.slice va (wordsN pp.is).length vc) (wordsN pp.is) := hwo.lower hBw0
     clear hb hBw0
     refine hK.out _ _ (hS) ?_
     clear hHeld hK
     intro hHeld
     (try simp only [Act.put, zsA, zsB, zsC])
     refine tkR (rs := [5]) ?_
     refine tkC (fun K hK => ?_) AllReadyH.nil
     go_simp
     have hb := alloc_below w3 (.cells #[.int .u8 (48 + (i : Int))] 5)
     refine hK.out _ _ (hS.then hb) ?_
     clear hHeld hK
     intro hHeld
     have hch : ChrAt (w3.alloc (.cells #[.int .u8 (48 + (i : Int))] 5)) w3.heap.size (48 + i) := chr_made2 w3 i (by omega)
     replace hBw := Below.then hBw hb
     replace hS := hS.then hb
     replace hgr := hgr.below hb
     replace hwo := hwo.below hb
     replace hz := stab_blk _ _ _ _ hz hb
     generalize w3.alloc (.cells #[.int .u8 (48 + (i : Int))] 5) = w4 at *
     generalize w3.heap.size = gC at *
     clear hb
     refine wpAnyH_strong (S' := fun W => PX wr nd d1 yp i pp W ∧ ChrAt W gC (48 + i)) (fun _ h => h.1) ?_
     replace hHeld : PX wr nd d1 yp i pp w4 ∧ ChrAt w4 gC (48 + i) := ⟨hS, hch⟩
     (try simp only [Act.put, zsA, zsB, zsC])
     refine tkB 6 (y := yields_conv (by rfl) _ rfl rfl (fun _ s => s.2.conv)) (h := ?_)
     refine tkA 7 ?_
     refine tkA 18 ?_
     refine tkR (rs := [20]) ?_
     refine tkC (fun K hK => ?_) AllReadyH.nil
     obtain ⟨x0, hx0⟩ : ∃ x0 : PN, x0 = ⟨segX (D ++ slpS ++ dgS i) d1.n.label 7 ⟨4, 4, 4, 0⟩ (wordsN pp.is), some ⟨gA, 0, none⟩, 1, va, vc⟩ := ⟨_, rfl⟩
     have hxl : x0.cs.length = 16 := pn_len x0
     have hxs : (Tryz.prog.info? 36).map (·.size) = some x0.cs.length := by rw [hxl]; exact hszN
     obtain ⟨V9, hV9, hth9, hgo, hb9⟩ := put_any hz (ds := x0.cs) (by rw [hxl]; rfl) (by rw [hxl]; decide)
     refine step_store_rowC rfl _ _ rfl gN rfl x0.cs (by rw [hx0]; rfl) hth9 hxs (pn_one x0) hV9 ?_
     (try simp only [Act.put, zsA, zsB, zsC])
     have hk9 : ∀ j, j ≠ gN → V9.heap[j]? = w4.heap[j]? := fun j hj => by rw [← hV9]; exact heap_setCells_other hj _ _ _
     replace hBw := hb9 _ _ hwN hBw
     replace hS := hS00.then hBw
     replace hch : ChrAt V9 gC (48 + i) := hch.kept (hk9 _ (fun q => chr_ne hch hz q)) (hb9 0 w4 (Nat.zero_le _) (Below.refl _ _)).size
     replace hgr : OwnR 119 2 gcl V9 wr.heap.size x0.av x0.n.acl := by rw [hx0]; exact hgr.keep fun j hj => hk9 j (fun q => hneA (by rw [hj, q]))
     replace hwo : OwnR 2 1 wcl V9 wr.heap.size x0.wv x0.n.words := by rw [hx0]; exact hwo.keep fun j hj => hk9 j (fun q => hneW (by rw [hj, q]))
     replace hneA : x0.av.ownBlock ≠ some gN := by rw [hx0]; exact hneA
     replace hneW : x0.wv.ownBlock ≠ some gN := by rw [hx0]; exact hneW
     replace hneG : ∀ g, x0.wv.ownBlock = some g → x0.av.ownBlock ≠ some g := by rw [hx0]; exact fun g h9 h8 => hneG (by have h7 : gA = g := Option.some.inj h8; rw [h7]; exact h9)
     replace hx0 : Aside (x0.n = segX (D ++ slpS ++ dgS i) d1.n.label 7 ⟨4, 4, 4, 0⟩ (wordsN pp.is)) := by rw [hx0]; exact rfl
     clear hk9 hth9 hb9 hV9 hxs hxl hz
     refine hK.out _ _ (⟨hS, hch⟩) ?_
     clear hHeld hK
     intro hHeld
     (try simp only [Act.put, zsA, zsB, zsC])
     refine wpAnyH_done (by kernel_rfl) ?_ _
     clear hHeld
     go_wp2_with fail
     go_meet
     exact ⟨gN, x0, rfl, hBw, hgo, hwN, hx0.out, hgr, hwo, hneA, hneW, hneG⟩
    refine tkC (fun K hK => ?_) AllReadyH.nil
    go_simp
    go_at_call 42
    refine (kwd w1 (hpA'.below in_okW.len (Below.then hBr hBw))).mono ?_
    rintro e w2 ⟨vw, rfl, hwo, hb⟩
    obtain ⟨va, vc, hvw, -, -, -⟩ := hwo.slice wd_okC.len
    subst hvw
    have hBw0 : wr.heap.size ≤ w1.heap.size := hBw.size
    have hneW : (Value.slice va (wordsN pp.is).length vc).ownBlock ≠ some gN := fun q => by have h9 := (hwo.lt q).1; have h8 := hz.2; omega
    replace hBw := Below.then hBw hb
    replace hS := hS.then hb
    replace hz := stab_blk _ _ _ _ hz hb
    replace hwo : OwnR 2 1 wcl w2 wr.heap.size (Value.slice va (wordsN pp.is).length vc) (wordsN pp.is) := hwo.lower hBw0
    clear hb hBw0
    refine hK.out _ _ (hS) ?_
    clear hHeld hK
    intro hHeld
    (try simp only [Act.put, zsA, zsB, zsC])
    refine tkR (rs := [5, 11]) ?_
    refine tkC (fun K hK => ?_) ?_
    ·go_simp
     have hb := alloc_below w2 (.cells #[.int .u8 (48 + (i : Int))] 5)
     refine hK.out _ _ (hS.then hb) ?_
     clear hHeld hK
     intro hHeld
     have hch : ChrAt (w2.alloc (.cells #[.int .u8 (48 + (i : Int))] 5)) w2.heap.size (48 + i) := chr_made2 w2 i (by omega)
     replace hBw := Below.then hBw hb
     replace hS := hS.then hb
     replace hwo := hwo.below hb
     replace hz := stab_blk _ _ _ _ hz hb
     generalize w2.alloc (.cells #[.int .u8 (48 + (i : Int))] 5) = w3 at *
     generalize w2.heap.size = gC at *
     clear hb
     refine wpAnyH_strong (S' := fun W => PX wr nd d1 yp i pp W ∧ ChrAt W gC (48 + i)) (fun _ h => h.1) ?_
     replace hHeld : PX wr nd d1 yp i pp w3 ∧ ChrAt w3 gC (48 + i) := ⟨hS, hch⟩
     (try simp only [Act.put, zsA, zsB, zsC])
     refine tkB 6 (y := yields_conv (by rfl) _ rfl rfl (fun _ s => s.2.conv)) (h := ?_)
     refine tkA 7 ?_
     refine tkR (rs := [11]) ?_
     refine tkC (fun K hK => ?_) AllReadyH.nil
     have hb := alloc_below w3 (.cells (gcl ⟨starS, 7⟩).toArray 119)
     refine step_build1 gr_okT (by decide) rfl _ rfl (gcl ⟨starS, 7⟩) rfl rfl ?_
     (try simp only [Act.put, zsA, zsB, zsC])
     refine hK.out _ _ (⟨hS.then hb, hch.below hb⟩) ?_
     clear hHeld hK
     intro hHeld
     have hgr : OwnR 119 2 gcl (w3.alloc (.cells (gcl ⟨starS, 7⟩).toArray 119)) wr.heap.size (.slice (some ⟨w3.heap.size, 0, none⟩) 1 1) [⟨starS, 7⟩] := own_oneP gr_okT w3 hBw.size ⟨starS, 7⟩
     have hneA : (Value.slice (some ⟨w3.heap.size, 0, none⟩) 1 1).ownBlock ≠ some gN := fun q => by have h9 : w3.heap.size = gN := Option.some.inj q; have h8 := hz.2; omega
     have hneG : (Value.slice va (wordsN pp.is).length vc).ownBlock ≠ some w3.heap.size := fun q => by have := (hwo.lt q).2; omega
     replace hBw := Below.then hBw hb
     replace hS := hS.then hb
     replace hch := hch.below hb
     replace hwo := hwo.below hb
     replace hz := stab_blk _ _ _ _ hz hb
     generalize w3.alloc (.cells (gcl ⟨starS, 7⟩).toArray 119) = w4 at *
     generalize w3.heap.size = gA at *
     clear hb
     (try simp only [Act.put, zsA, zsB, zsC])
     refine tkA 18 ?_
     refine tkR (rs := [20]) ?_
     refine tkC (fun K hK => ?_) AllReadyH.nil
     obtain ⟨x0, hx0⟩ : ∃ x0 : PN, x0 = ⟨segX (D ++ slpS ++ dgS i) d1.n.label 7 ⟨4, 4, 4, 0⟩ (wordsN pp.is), some ⟨gA, 0, none⟩, 1, va, vc⟩ := ⟨_, rfl⟩
     have hxl : x0.cs.length = 16 := pn_len x0
     have hxs : (Tryz.prog.info? 36).map (·.size) = some x0.cs.length := by rw [hxl]; exact hszN
     obtain ⟨V9, hV9, hth9, hgo, hb9⟩ := put_any hz (ds := x0.cs) (by rw [hxl]; rfl) (by rw [hxl]; decide)
     refine step_store_rowC rfl _ _ rfl gN rfl x0.cs (by rw [hx0]; rfl) hth9 hxs (pn_one x0) hV9 ?_
     (try simp only [Act.put, zsA, zsB, zsC])
     have hk9 : ∀ j, j ≠ gN → V9.heap[j]? = w4.heap[j]? := fun j hj => by rw [← hV9]; exact heap_setCells_other hj _ _ _
     replace hBw := hb9 _ _ hwN hBw
     replace hS := hS00.then hBw
     replace hch : ChrAt V9 gC (48 + i) := hch.kept (hk9 _ (fun q => chr_ne hch hz q)) (hb9 0 w4 (Nat.zero_le _) (Below.refl _ _)).size
     replace hgr : OwnR 119 2 gcl V9 wr.heap.size x0.av x0.n.acl := by rw [hx0]; exact hgr.keep fun j hj => hk9 j (fun q => hneA (by rw [hj, q]))
     replace hwo : OwnR 2 1 wcl V9 wr.heap.size x0.wv x0.n.words := by rw [hx0]; exact hwo.keep fun j hj => hk9 j (fun q => hneW (by rw [hj, q]))
     replace hneA : x0.av.ownBlock ≠ some gN := by rw [hx0]; exact hneA
     replace hneW : x0.wv.ownBlock ≠ some gN := by rw [hx0]; exact hneW
     replace hneG : ∀ g, x0.wv.ownBlock = some g → x0.av.ownBlock ≠ some g := by rw [hx0]; exact fun g h9 h8 => hneG (by have h7 : gA = g := Option.some.inj h8; rw [h7]; exact h9)
     replace hx0 : Aside (x0.n = segX (D ++ slpS ++ dgS i) d1.n.label 7 ⟨4, 4, 4, 0⟩ (wordsN pp.is)) := by rw [hx0]; exact rfl
     clear hk9 hth9 hb9 hV9 hxs hxl hz
     refine hK.out _ _ (⟨hS, hch⟩) ?_
     clear hHeld hK
     intro hHeld
     (try simp only [Act.put, zsA, zsB, zsC])
     refine wpAnyH_done (by kernel_rfl) ?_ _
     clear hHeld
     go_wp2_with fail
     go_meet
     exact ⟨gN, x0, rfl, hBw, hgo, hwN, hx0.out, hgr, hwo, hneA, hneW, hneG⟩
    refine tkC (fun K hK => ?_) AllReadyH.nil
    have hb := alloc_below w2 (.cells (gcl ⟨starS, 7⟩).toArray 119)
    refine step_build1 gr_okT (by decide) rfl _ rfl (gcl ⟨starS, 7⟩) rfl rfl ?_
    (try simp only [Act.put, zsA, zsB, zsC])
    refine hK.out _ _ (hS.then hb) ?_
    clear hHeld hK
    intro hHeld
    have hgr : OwnR 119 2 gcl (w2.alloc (.cells (gcl ⟨starS, 7⟩).toArray 119)) wr.heap.size (.slice (some ⟨w2.heap.size, 0, none⟩) 1 1) [⟨starS, 7⟩] := own_oneP gr_okT w2 hBw.size ⟨starS, 7⟩
    have hneA : (Value.slice (some ⟨w2.heap.size, 0, none⟩) 1 1).ownBlock ≠ some gN := fun q => by have h9 : w2.heap.size = gN := Option.some.inj q; have h8 := hz.2; omega
    have hneG : (Value.slice va (wordsN pp.is).length vc).ownBlock ≠ some w2.heap.size := fun q => by have := (hwo.lt q).2; omega
    replace hBw := Below.then hBw hb
    replace hS := hS.then hb
    replace hwo := hwo.below hb
    replace hz := stab_blk _ _ _ _ hz hb
    generalize w2.alloc (.cells (gcl ⟨starS, 7⟩).toArray 119) = w3 at *
    generalize w2.heap.size = gA at *
    clear hb
    (try simp only [Act.put, zsA, zsB, zsC])
    refine tkR (rs := [5]) ?_
    refine tkC (fun K hK => ?_) AllReadyH.nil
    go_simp
    have hb := alloc_below w3 (.cells #[.int .u8 (48 + (i : Int))] 5)
    refine hK.out _ _ (hS.then hb) ?_
    clear hHeld hK
    intro hHeld
    have hch : ChrAt (w3.alloc (.cells #[.int .u8 (48 + (i : Int))] 5)) w3.heap.size (48 + i) := chr_made2 w3 i (by omega)
    replace hBw := Below.then hBw hb
    replace hS := hS.then hb
    replace hgr := hgr.below hb
    replace hwo := hwo.below hb
    replace hz := stab_blk _ _ _ _ hz hb
    generalize w3.alloc (.cells #[.int .u8 (48 + (i : Int))] 5) = w4 at *
    generalize w3.heap.size = gC at *
    clear hb
    refine wpAnyH_strong (S' := fun W => PX wr nd d1 yp i pp W ∧ ChrAt W gC (48 + i)) (fun _ h => h.1) ?_
    replace hHeld : PX wr nd d1 yp i pp w4 ∧ ChrAt w4 gC (48 + i) := ⟨hS, hch⟩
    (try simp only [Act.put, zsA, zsB, zsC])
    refine tkB 6 (y := yields_conv (by rfl) _ rfl rfl (fun _ s => s.2.conv)) (h := ?_)
    refine tkA 7 ?_
    refine tkA 18 ?_
    refine tkR (rs := [20]) ?_
    refine tkC (fun K hK => ?_) AllReadyH.nil
    obtain ⟨x0, hx0⟩ : ∃ x0 : PN, x0 = ⟨segX (D ++ slpS ++ dgS i) d1.n.label 7 ⟨4, 4, 4, 0⟩ (wordsN pp.is), some ⟨gA, 0, none⟩, 1, va, vc⟩ := ⟨_, rfl⟩
    have hxl : x0.cs.length = 16 := pn_len x0
    have hxs : (Tryz.prog.info? 36).map (·.size) = some x0.cs.length := by rw [hxl]; exact hszN
    obtain ⟨V9, hV9, hth9, hgo, hb9⟩ := put_any hz (ds := x0.cs) (by rw [hxl]; rfl) (by rw [hxl]; decide)
    refine step_store_rowC rfl _ _ rfl gN rfl x0.cs (by rw [hx0]; rfl) hth9 hxs (pn_one x0) hV9 ?_
    (try simp only [Act.put, zsA, zsB, zsC])
    have hk9 : ∀ j, j ≠ gN → V9.heap[j]? = w4.heap[j]? := fun j hj => by rw [← hV9]; exact heap_setCells_other hj _ _ _
    replace hBw := hb9 _ _ hwN hBw
    replace hS := hS00.then hBw
    replace hch : ChrAt V9 gC (48 + i) := hch.kept (hk9 _ (fun q => chr_ne hch hz q)) (hb9 0 w4 (Nat.zero_le _) (Below.refl _ _)).size
    replace hgr : OwnR 119 2 gcl V9 wr.heap.size x0.av x0.n.acl := by rw [hx0]; exact hgr.keep fun j hj => hk9 j (fun q => hneA (by rw [hj, q]))
    replace hwo : OwnR 2 1 wcl V9 wr.heap.size x0.wv x0.n.words := by rw [hx0]; exact hwo.keep fun j hj => hk9 j (fun q => hneW (by rw [hj, q]))
    replace hneA : x0.av.ownBlock ≠ some gN := by rw [hx0]; exact hneA
    replace hneW : x0.wv.ownBlock ≠ some gN := by rw [hx0]; exact hneW
    replace hneG : ∀ g, x0.wv.ownBlock = some g → x0.av.ownBlock ≠ some g := by rw [hx0]; exact fun g h9 h8 => hneG (by have h7 : gA = g := Option.some.inj h8; rw [h7]; exact h9)
    replace hx0 : Aside (x0.n = segX (D ++ slpS ++ dgS i) d1.n.label 7 ⟨4, 4, 4, 0⟩ (wordsN pp.is)) := by rw [hx0]; exact rfl
    clear hk9 hth9 hb9 hV9 hxs hxl hz
    refine hK.out _ _ (⟨hS, hch⟩) ?_
    clear hHeld hK
    intro hHeld
    (try simp only [Act.put, zsA, zsB, zsC])
    refine wpAnyH_done (by kernel_rfl) ?_ _
    clear hHeld
    go_wp2_with fail
    go_meet
    exact ⟨gN, x0, rfl, hBw, hgo, hwN, hx0.out, hgr, hwo, hneA, hneW, hneG⟩
   case rest =>
    clear hS hBw hbd hu8 kwd hsl hsg
    obtain ⟨gN, x0, rfl, hBw, hgo, hwN, hx0, hgr, hwo, hneA, hneW, hneG⟩ := hcut
    rw [← hD.out] at hx0
    have hx0n : Aside (x0.n = segX (pS j i) d1.n.label 7 ⟨4, 4, 4, 0⟩ (wordsN pp.is)) := hx0
    have hal : x0.n.acl = [⟨starS, 7⟩] := by rw [hx0]; rfl
    have hacl : x0.n.acl.length = 1 := by rw [hal]; rfl
    obtain ⟨gA, ca, hav, hgB, hgl⟩ := hgr.formR (by rw [hacl]; decide)
    have hav2 := hav
    unfold PN.av at hav2
    injection hav2 with e1 e2 e3
    have hgAN : gA ≠ gN := fun q => hneA (by rw [hav, q]; rfl)
    have h6 : x0.cs[6]? = some (.slice (some ⟨gA, 0, none⟩) 1 ca) := by
     show some (Value.slice x0.aa x0.n.acl.length x0.ca) = _
     rw [e1, e3, hacl]
    clear hx0 e2
    by_cases hmi : i < ms.length
    ·obtain ⟨mo, hmo⟩ : ∃ mo, ms[i]? = some mo := ⟨_, List.getElem?_eq_getElem hmi⟩
     have i4 : (i : Int) < (nm : Int) := by rw [← hnm.out]; omega
     obtain ⟨ym, rfl, hyc⟩ := (hms.below icell_len hBr) i mo hmo
     have hyr : wr.cell? (ym.add i) = some (.int .i64 mo) := by
      have := hyc 0 (by decide)
      rw [Nat.mul_one, Nat.add_zero] at this
      exact this
     have hylt : (ym.add i).block < wr.heap.size := World.block_lt_of_cell? _ _ hyr
     have hym0 : wc.cell? (ym.add i) = some (.int .i64 mo) := (hBw.cell hylt).trans hyr
     have hgd : ms.getD i 0 = mo := by rw [List.getD_eq_getElem?_getD, hmo]; rfl
     clear hyc
     go_wp2_with fail
     refine (kw mo wc).mono ?_
     rintro e W8 ⟨rfl, rfl⟩
     by_cases hmp : 0 < mo % 8
     ·have hmd : mdX ms i = mo % 8 := by
        unfold mdX
        rw [hgd, if_pos ⟨hmi, hmp⟩]
      obtain ⟨x2, hx2⟩ : ∃ x2 : PN, x2 = { x0 with n := { x0.n with acl := [⟨starS, mo % 8⟩] } } := ⟨_, rfl⟩
      have hx2c : x2.cs = x0.cs := by
       rw [hx2]
       unfold PN.cs nclT
       simp only [hacl]
       rfl
      have hx2n : Aside (x2.n = segX (pS j i) d1.n.label (mdX ms i) ⟨4, 4, 4, 0⟩ (wordsN pp.is)) := by
       show _ = _
       rw [hx2, hmd, hx0n.out]
       rfl
      have hdr : Below W8.heap.size W8 W8.drew := (Below.refl _ _).drew
      have hS : BlkL gN x0.cs W8.drew ∧ W8.drew.cell? (ym.add i) = some (.int .i64 mo) := ⟨stab_blk _ _ _ _ hgo hdr, hym0⟩
      have hgo0 := hS.1
      have hgr0 := hgr.below hdr
      rw [hav, hal] at hgr0
      have hwo0 := hwo.below hdr
      have hBw2 : Below wr.heap.size wr W8.drew := hBw.drew
      clear hdr
      go_upto_region 9 with fail
      refine wp_region_held_drew (S := (fun W => BlkL gN x0.cs W ∧ W.cell? (ym.add i) = some (.int .i64 mo))) (by kernel_rfl) (by exact hS) ?_
      intro hHeld
      generalize W8.drew = w0 at *
      refine tkA 0 ?_
      refine tkB 1 (y := yields_cellI (by rfl) _ rfl ⟨gN, 6, none⟩ rfl (.slice (some ⟨gA, 0, none⟩) 1 ca) (fun _ s => (s.1.1 6 _ h6).1) grsP_load) (h := ?_)
      refine tkA 2 ?_
      refine tkA 3 ?_
      refine tkA 4 ?_
      refine tkB 5 (y := yields_cellI (by rfl) _ rfl (ym.add i) rfl (.int .i64 mo) (fun _ s => s.2) intP_load) (h := ?_)
      refine tkR (rs := [6]) ?_
      refine tkC (fun K hK => ?_) AllReadyH.nil
      go_simp
      refine (kw mo w0).mono ?_
      rintro e w1 ⟨rfl, rfl⟩
      refine hK.out _ _ (hS) ?_
      clear hHeld hK
      intro hHeld
      (try simp only [Act.put, zsA, zsB, zsC])
      refine tkA 7 ?_
      refine tkA 8 ?_
      refine tkR (rs := [9]) ?_
      refine tkC (fun K hK => ?_) AllReadyH.nil
      obtain ⟨hga2, hf9, z9, hq9⟩ : OwnR 119 2 gcl (w1.setCell ⟨gA, 1, none⟩ (.int .i64 (mo % 8))) wr.heap.size (.slice (some ⟨gA, 0, none⟩) 1 ca) [⟨starS, mo % 8⟩] ∧ w1.frozen? ⟨gA, 1, none⟩ = false ∧ ∃ z, w1.cell? ⟨gA, 1, none⟩ = some z := OwnR.storedR (f := gcl) (j := 0) (o := 1) (x := ⟨starS, 7⟩) (y := ⟨starS, mo % 8⟩) (n := 1) (fun _ => rfl) hgr0 rfl rfl (by decide) rfl
      have hgo2 : BlkL gN x0.cs (w1.setCell ⟨gA, 1, none⟩ (.int .i64 (mo % 8))) := blk_setO hgo0 (Ne.symm hgAN) 1 _
      have hwo2 : OwnR 2 1 wcl (w1.setCell ⟨gA, 1, none⟩ (.int .i64 (mo % 8))) wr.heap.size x0.wv x0.n.words := hwo0.set (fun q => hneG gA q (by rw [hav]; rfl))
      have hBw_x2 := hBw2.setCell (p := ⟨gA, 1, none⟩) hgB (.int .i64 (mo % 8))
      have hym2 : (w1.setCell ⟨gA, 1, none⟩ (.int .i64 (mo % 8))).cell? (ym.add i) = some (.int .i64 mo) := by
       rw [hBw_x2.cell hylt, ← hBw2.cell hylt]
       exact hS.2
      refine step_st rfl _ _ rfl ⟨gA, 1, none⟩ rfl (.int .i64 (mo % 8)) rfl (intP_store _ _ _ _ hq9 hf9) ?_
      (try simp only [Act.put, zsA, zsB, zsC])
      refine hK.out _ _ (⟨hgo2, hym2⟩) ?_
      clear hHeld hK
      intro hHeld
      clear hf9 hq9 hym2
      generalize w1.setCell ⟨gA, 1, none⟩ (.int .i64 (mo % 8)) = V0 at *
      (try simp only [Act.put, zsA, zsB, zsC])
      refine wpAnyH_done (by kernel_rfl) ?_ _
      clear hHeld
      have hav3 : x2.av = .slice (some ⟨gA, 0, none⟩) 1 ca := by
       rw [hx2]
       show Value.slice x0.aa 1 x0.ca = _
       rw [e1, e3]
      have hgo_x2 : BlkL gN x2.cs V0 := by rw [hx2c]; exact hgo2
      have hgr_x2 : OwnR 119 2 gcl V0 wr.heap.size x2.av x2.n.acl := by
       rw [hav3, hx2]
       exact hga2
      have hwo_x2 : OwnR 2 1 wcl V0 wr.heap.size x2.wv x2.n.words := by
       rw [hx2]
       exact hwo2
      have hneA2 : x2.av.ownBlock ≠ some gN := by
       rw [hav3]
       exact fun q => hgAN (Option.some.inj q)
      have hneW2 : x2.wv.ownBlock ≠ some gN := by
       rw [hx2]
       exact hneW
      clear hx2 hgo2 hga2 hwo2 hneA hneW hneG hav e1 e3 hx2c hgo hgr hwo hgo0 hgr0 hwo0 hS hBw hBw2
      by_cases hri : i < rs.length
      ·obtain ⟨rg, hrg⟩ : ∃ rg, rs[i]? = some rg := ⟨_, List.getElem?_eq_getElem hri⟩
       have i6 : (i : Int) < (nr : Int) := by rw [← hnr.out]; omega
       obtain ⟨yr, rfl, hyc⟩ := (hrsR.below rg_len (Below.then hBr hBw_x2)) i rg hrg
       have hrat : CellsAt V0 (yr.add (i * 4)) (rgcl rg) := (hrsR.below rg_len (Below.then hBr hBw_x2)).at rg_len hrg
       have hrgx : rgX rs i = goodR rg := by
        unfold rgX
        rw [if_pos hri, List.getD_eq_getElem?_getD, hrg]
        rfl
       have kg := rggood_any rg V0
       clear hyc
       go_upto_region 11 with fail
       go_wp2_with (first | (refine wpList_load_at rfl _ rfl (yr.add (i * 4)) rfl (rgcl rg) hrat hundR rfl hsr ?_) | fail)
       refine kg.mono ?_
       rintro e V1 ⟨rfl, hb1⟩
       obtain ⟨V2, hV2, hth2, hg2, hb2⟩ := put_mid (Z := wr) (stab_blk _ _ _ _ hgo_x2 hb1) 7 (rgcl (goodR rg)) (by rw [pn_len, rg_len]; decide) (by rw [pn_len]; decide) (Below.then hBw_x2 hb1) hwN
       obtain ⟨x3, hx3⟩ : ∃ x3 : PN, x3 = { x2 with n := { x2.n with r1 := (goodR rg).a, r2 := (goodR rg).b, r3 := (goodR rg).c, gates := (goodR rg).g } } := ⟨_, rfl⟩
       have hg3 : BlkL gN x3.cs V2 := by rw [hx3]; exact hg2
       have hx3n : Aside (x3.n = segX (pS j i) d1.n.label (mdX ms i) (rgX rs i) (wordsN pp.is)) := by
        show _ = _
        rw [hx3, hrgx, hx2n.out]
        rfl
       have hk2 : ∀ q, q ≠ gN → V2.heap[q]? = V1.heap[q]? := fun q hq => by rw [← hV2]; exact heap_setCells_other hq _ _ _
       have hga3 : OwnR 119 2 gcl V2 wr.heap.size x3.av x3.n.acl := by rw [hx3]; exact (hgr_x2.below hb1).keep fun q hq => hk2 q (fun z => hneA2 (by rw [← z]; exact hq))
       have hwo3 : OwnR 2 1 wcl V2 wr.heap.size x3.wv x3.n.words := by rw [hx3]; exact (hwo_x2.below hb1).keep fun q hq => hk2 q (fun z => hneW2 (by rw [← z]; exact hq))
       have hxa3 := own_at hga3 hwo3
       clear hx3
       have hBr3 : Below wr.heap.size wr V2 := hb2
       have hrow3 := hrow.below hBr3
       have hxs3 : (Tryz.prog.info? 36).map (·.size) = some x3.cs.length := by rw [pn_len]; exact hszN
       have hgr3 := hg3.range
       have hrgo := rg_one (goodR rg)
       have hsr2 : (Tryz.prog.info? 33).map (·.size) = some (rgcl (goodR rg)).length := hsr
       go_wp2_with (first | (refine wpList_store_part rfl _ _ rfl gN 7 rfl (rgcl (goodR rg)) rfl hth2 hsr2 hrgo hV2 ?_) | (refine wpList_load_row rfl _ rfl gN rfl x3.cs hgr3 hundN rfl hxs3 ?_) | fail)
       refine (kput V2 a1 c1 l1 x3 hll hrow3).mono ?_
       rintro e W9 ⟨v9, rfl, ho9, hb9⟩
       obtain ⟨a9, c9, hv9, -, -, -⟩ := ho9.slice pn_len
       subst hv9
       have hf9 : ∃ l9 : List PN, RowN W9 a9 l9 ∧ namesP l9 = putsX j d1.n.label (ps.map (·.is)) ms rs (i + 1) (namesP l) ∧ l9.length = (putP l1 x3).length ∧ l9.length ≤ l1.length + 1 := ⟨putP l1 x3, put_rowN ho9 hrow3 hxa3 hb9, by rw [put_names, hl1.out, putsX_next, hx3n.out]; unfold putX; rw [hpin.out], rfl, put_len l1 x3⟩
       obtain ⟨l9, hr9, hn9, hle9, hlen9⟩ := hf9
       rw [← hle9]
       have hBB9 := Below.then hBr3 hb9
       have hnd9 := stab_blk _ _ _ _ hnd hBB9
       clear ho9 hb9 hrow3 hxa3 hBr3 hle9
       go_wp2_with fail
       exact ⟨⟨i + 1, l9, a9, c9, by omega, by omega, by simp, rfl, hr9, hn9, by omega, hnd9, Below.then hBr hBB9⟩, by simp [Go.RowKit.intOf]; omega⟩
      ·have i6 : ¬ (i : Int) < (nr : Int) := by rw [← hnr.out]; omega
       have hrgx : rgX rs i = ⟨4, 4, 4, 0⟩ := by
        unfold rgX
        rw [if_neg hri]
       obtain ⟨x3, hx3⟩ : ∃ x3, x3 = x2 := ⟨_, rfl⟩
       rw [← hx3] at hgo_x2 hgr_x2 hwo_x2 hx2n
       clear hx3
       have hx3n : Aside (x3.n = segX (pS j i) d1.n.label (mdX ms i) (rgX rs i) (wordsN pp.is)) := by
        show _ = _
        rw [hrgx, hx2n.out]
       have hxa3 := own_at hgr_x2 hwo_x2
       have hBr3 : Below wr.heap.size wr V0 := hBw_x2
       have hrow3 := hrow.below hBr3
       have hxs3 : (Tryz.prog.info? 36).map (·.size) = some x3.cs.length := by rw [pn_len]; exact hszN
       have hgr3 := hgo_x2.range
       go_wp2_with (first | (refine wpList_load_row rfl _ rfl gN rfl x3.cs hgr3 hundN rfl hxs3 ?_) | fail)
       refine (kput V0 a1 c1 l1 x3 hll hrow3).mono ?_
       rintro e W9 ⟨v9, rfl, ho9, hb9⟩
       obtain ⟨a9, c9, hv9, -, -, -⟩ := ho9.slice pn_len
       subst hv9
       have hf9 : ∃ l9 : List PN, RowN W9 a9 l9 ∧ namesP l9 = putsX j d1.n.label (ps.map (·.is)) ms rs (i + 1) (namesP l) ∧ l9.length = (putP l1 x3).length ∧ l9.length ≤ l1.length + 1 := ⟨putP l1 x3, put_rowN ho9 hrow3 hxa3 hb9, by rw [put_names, hl1.out, putsX_next, hx3n.out]; unfold putX; rw [hpin.out], rfl, put_len l1 x3⟩
       obtain ⟨l9, hr9, hn9, hle9, hlen9⟩ := hf9
       rw [← hle9]
       have hBB9 := Below.then hBr3 hb9
       have hnd9 := stab_blk _ _ _ _ hnd hBB9
       clear ho9 hb9 hrow3 hxa3 hBr3 hle9
       go_wp2_with fail
       exact ⟨⟨i + 1, l9, a9, c9, by omega, by omega, by simp, rfl, hr9, hn9, by omega, hnd9, Below.then hBr hBB9⟩, by simp [Go.RowKit.intOf]; omega⟩
     ·have hmd : mdX ms i = 7 := by
        unfold mdX
        rw [hgd, if_neg (fun q => hmp q.2)]
      have hx2n : Aside (x0.n = segX (pS j i) d1.n.label (mdX ms i) ⟨4, 4, 4, 0⟩ (wordsN pp.is)) := by
       show _ = _
       rw [hmd, hx0n.out]
      have hneA2 := hneA
      have hneW2 := hneW
      clear hneA hneW hneG
      obtain ⟨x2, hx2⟩ : ∃ x2, x2 = x0 := ⟨_, rfl⟩
      rw [← hx2] at hgo hgr hwo hneA2 hneW2 hx2n
      clear hx2 hav e1 e3 h6 hym0 hyr
      have hgo_x2 := hgo
      have hgr_x2 := hgr
      have hwo_x2 := hwo
      have hBw_x2 := hBw
      clear hgo hgr hwo hBw
      by_cases hri : i < rs.length
      ·obtain ⟨rg, hrg⟩ : ∃ rg, rs[i]? = some rg := ⟨_, List.getElem?_eq_getElem hri⟩
       have i6 : (i : Int) < (nr : Int) := by rw [← hnr.out]; omega
       obtain ⟨yr, rfl, hyc⟩ := (hrsR.below rg_len (Below.then hBr hBw_x2)) i rg hrg
       have hrat : CellsAt W8 (yr.add (i * 4)) (rgcl rg) := (hrsR.below rg_len (Below.then hBr hBw_x2)).at rg_len hrg
       have hrgx : rgX rs i = goodR rg := by
        unfold rgX
        rw [if_pos hri, List.getD_eq_getElem?_getD, hrg]
        rfl
       have kg := rggood_any rg W8
       clear hyc
       go_upto_region 11 with fail
       go_wp2_with (first | (refine wpList_load_at rfl _ rfl (yr.add (i * 4)) rfl (rgcl rg) hrat hundR rfl hsr ?_) | fail)
       refine kg.mono ?_
       rintro e V1 ⟨rfl, hb1⟩
       obtain ⟨V2, hV2, hth2, hg2, hb2⟩ := put_mid (Z := wr) (stab_blk _ _ _ _ hgo_x2 hb1) 7 (rgcl (goodR rg)) (by rw [pn_len, rg_len]; decide) (by rw [pn_len]; decide) (Below.then hBw_x2 hb1) hwN
       obtain ⟨x3, hx3⟩ : ∃ x3 : PN, x3 = { x2 with n := { x2.n with r1 := (goodR rg).a, r2 := (goodR rg).b, r3 := (goodR rg).c, gates := (goodR rg).g } } := ⟨_, rfl⟩
       have hg3 : BlkL gN x3.cs V2 := by rw [hx3]; exact hg2
       have hx3n : Aside (x3.n = segX (pS j i) d1.n.label (mdX ms i) (rgX rs i) (wordsN pp.is)) := by
        show _ = _
        rw [hx3, hrgx, hx2n.out]
        rfl
       have hk2 : ∀ q, q ≠ gN → V2.heap[q]? = V1.heap[q]? := fun q hq => by rw [← hV2]; exact heap_setCells_other hq _ _ _
       have hga3 : OwnR 119 2 gcl V2 wr.heap.size x3.av x3.n.acl := by rw [hx3]; exact (hgr_x2.below hb1).keep fun q hq => hk2 q (fun z => hneA2 (by rw [← z]; exact hq))
       have hwo3 : OwnR 2 1 wcl V2 wr.heap.size x3.wv x3.n.words := by rw [hx3]; exact (hwo_x2.below hb1).keep fun q hq => hk2 q (fun z => hneW2 (by rw [← z]; exact hq))
       have hxa3 := own_at hga3 hwo3
       clear hx3
       have hBr3 : Below wr.heap.size wr V2 := hb2
       have hrow3 := hrow.below hBr3
       have hxs3 : (Tryz.prog.info? 36).map (·.size) = some x3.cs.length := by rw [pn_len]; exact hszN
       have hgr3 := hg3.range
       have hrgo := rg_one (goodR rg)
       have hsr2 : (Tryz.prog.info? 33).map (·.size) = some (rgcl (goodR rg)).length := hsr
       go_wp2_with (first | (refine wpList_store_part rfl _ _ rfl gN 7 rfl (rgcl (goodR rg)) rfl hth2 hsr2 hrgo hV2 ?_) | (refine wpList_load_row rfl _ rfl gN rfl x3.cs hgr3 hundN rfl hxs3 ?_) | fail)
       refine (kput V2 a1 c1 l1 x3 hll hrow3).mono ?_
       rintro e W9 ⟨v9, rfl, ho9, hb9⟩
       obtain ⟨a9, c9, hv9, -, -, -⟩ := ho9.slice pn_len
       subst hv9
       have hf9 : ∃ l9 : List PN, RowN W9 a9 l9 ∧ namesP l9 = putsX j d1.n.label (ps.map (·.is)) ms rs (i + 1) (namesP l) ∧ l9.length = (putP l1 x3).length ∧ l9.length ≤ l1.length + 1 := ⟨putP l1 x3, put_rowN ho9 hrow3 hxa3 hb9, by rw [put_names, hl1.out, putsX_next, hx3n.out]; unfold putX; rw [hpin.out], rfl, put_len l1 x3⟩
       obtain ⟨l9, hr9, hn9, hle9, hlen9⟩ := hf9
       rw [← hle9]
       have hBB9 := Below.then hBr3 hb9
       have hnd9 := stab_blk _ _ _ _ hnd hBB9
       clear ho9 hb9 hrow3 hxa3 hBr3 hle9
       go_wp2_with fail
       exact ⟨⟨i + 1, l9, a9, c9, by omega, by omega, by simp, rfl, hr9, hn9, by omega, hnd9, Below.then hBr hBB9⟩, by simp [Go.RowKit.intOf]; omega⟩
      ·have i6 : ¬ (i : Int) < (nr : Int) := by rw [← hnr.out]; omega
       have hrgx : rgX rs i = ⟨4, 4, 4, 0⟩ := by
        unfold rgX
        rw [if_neg hri]
       obtain ⟨x3, hx3⟩ : ∃ x3, x3 = x2 := ⟨_, rfl⟩
       rw [← hx3] at hgo_x2 hgr_x2 hwo_x2 hx2n
       clear hx3
       have hx3n : Aside (x3.n = segX (pS j i) d1.n.label (mdX ms i) (rgX rs i) (wordsN pp.is)) := by
        show _ = _
        rw [hrgx, hx2n.out]
       have hxa3 := own_at hgr_x2 hwo_x2
       have hBr3 : Below wr.heap.size wr W8 := hBw_x2
       have hrow3 := hrow.below hBr3
       have hxs3 : (Tryz.prog.info? 36).map (·.size) = some x3.cs.length := by rw [pn_len]; exact hszN
       have hgr3 := hgo_x2.range
       go_wp2_with (first | (refine wpList_load_row rfl _ rfl gN rfl x3.cs hgr3 hundN rfl hxs3 ?_) | fail)
       refine (kput W8 a1 c1 l1 x3 hll hrow3).mono ?_
       rintro e W9 ⟨v9, rfl, ho9, hb9⟩
       obtain ⟨a9, c9, hv9, -, -, -⟩ := ho9.slice pn_len
       subst hv9
       have hf9 : ∃ l9 : List PN, RowN W9 a9 l9 ∧ namesP l9 = putsX j d1.n.label (ps.map (·.is)) ms rs (i + 1) (namesP l) ∧ l9.length = (putP l1 x3).length ∧ l9.length ≤ l1.length + 1 := ⟨putP l1 x3, put_rowN ho9 hrow3 hxa3 hb9, by rw [put_names, hl1.out, putsX_next, hx3n.out]; unfold putX; rw [hpin.out], rfl, put_len l1 x3⟩
       obtain ⟨l9, hr9, hn9, hle9, hlen9⟩ := hf9
       rw [← hle9]
       have hBB9 := Below.then hBr3 hb9
       have hnd9 := stab_blk _ _ _ _ hnd hBB9
       clear ho9 hb9 hrow3 hxa3 hBr3 hle9
       go_wp2_with fail
       exact ⟨⟨i + 1, l9, a9, c9, by omega, by omega, by simp, rfl, hr9, hn9, by omega, hnd9, Below.then hBr hBB9⟩, by simp [Go.RowKit.intOf]; omega⟩
    ·have i4 : ¬ (i : Int) < (nm : Int) := by rw [← hnm.out]; omega
     have hmd : mdX ms i = 7 := by
      unfold mdX
      rw [if_neg (fun q => hmi q.1)]
     have hx2n : Aside (x0.n = segX (pS j i) d1.n.label (mdX ms i) ⟨4, 4, 4, 0⟩ (wordsN pp.is)) := by
      show _ = _
      rw [hmd, hx0n.out]
     have hneA2 := hneA
     have hneW2 := hneW
     clear hneA hneW hneG
     obtain ⟨x2, hx2⟩ : ∃ x2, x2 = x0 := ⟨_, rfl⟩
     rw [← hx2] at hgo hgr hwo hneA2 hneW2 hx2n
     clear hx2 hav e1 e3 h6
     have hgo_x2 := hgo
     have hgr_x2 := hgr
     have hwo_x2 := hwo
     have hBw_x2 := hBw
     clear hgo hgr hwo hBw
     by_cases hri : i < rs.length
     ·obtain ⟨rg, hrg⟩ : ∃ rg, rs[i]? = some rg := ⟨_, List.getElem?_eq_getElem hri⟩
      have i6 : (i : Int) < (nr : Int) := by rw [← hnr.out]; omega
      obtain ⟨yr, rfl, hyc⟩ := (hrsR.below rg_len (Below.then hBr hBw_x2)) i rg hrg
      have hrat : CellsAt wc (yr.add (i * 4)) (rgcl rg) := (hrsR.below rg_len (Below.then hBr hBw_x2)).at rg_len hrg
      have hrgx : rgX rs i = goodR rg := by
       unfold rgX
       rw [if_pos hri, List.getD_eq_getElem?_getD, hrg]
       rfl
      have kg := rggood_any rg wc
      clear hyc
      go_upto_region 11 with fail
      go_wp2_with (first | (refine wpList_load_at rfl _ rfl (yr.add (i * 4)) rfl (rgcl rg) hrat hundR rfl hsr ?_) | fail)
      refine kg.mono ?_
      rintro e V1 ⟨rfl, hb1⟩
      obtain ⟨V2, hV2, hth2, hg2, hb2⟩ := put_mid (Z := wr) (stab_blk _ _ _ _ hgo_x2 hb1) 7 (rgcl (goodR rg)) (by rw [pn_len, rg_len]; decide) (by rw [pn_len]; decide) (Below.then hBw_x2 hb1) hwN
      obtain ⟨x3, hx3⟩ : ∃ x3 : PN, x3 = { x2 with n := { x2.n with r1 := (goodR rg).a, r2 := (goodR rg).b, r3 := (goodR rg).c, gates := (goodR rg).g } } := ⟨_, rfl⟩
      have hg3 : BlkL gN x3.cs V2 := by rw [hx3]; exact hg2
      have hx3n : Aside (x3.n = segX (pS j i) d1.n.label (mdX ms i) (rgX rs i) (wordsN pp.is)) := by
       show _ = _
       rw [hx3, hrgx, hx2n.out]
       rfl
      have hk2 : ∀ q, q ≠ gN → V2.heap[q]? = V1.heap[q]? := fun q hq => by rw [← hV2]; exact heap_setCells_other hq _ _ _
      have hga3 : OwnR 119 2 gcl V2 wr.heap.size x3.av x3.n.acl := by rw [hx3]; exact (hgr_x2.below hb1).keep fun q hq => hk2 q (fun z => hneA2 (by rw [← z]; exact hq))
      have hwo3 : OwnR 2 1 wcl V2 wr.heap.size x3.wv x3.n.words := by rw [hx3]; exact (hwo_x2.below hb1).keep fun q hq => hk2 q (fun z => hneW2 (by rw [← z]; exact hq))
      have hxa3 := own_at hga3 hwo3
      clear hx3
      have hBr3 : Below wr.heap.size wr V2 := hb2
      have hrow3 := hrow.below hBr3
      have hxs3 : (Tryz.prog.info? 36).map (·.size) = some x3.cs.length := by rw [pn_len]; exact hszN
      have hgr3 := hg3.range
      have hrgo := rg_one (goodR rg)
      have hsr2 : (Tryz.prog.info? 33).map (·.size) = some (rgcl (goodR rg)).length := hsr
      go_wp2_with (first | (refine wpList_store_part rfl _ _ rfl gN 7 rfl (rgcl (goodR rg)) rfl hth2 hsr2 hrgo hV2 ?_) | (refine wpList_load_row rfl _ rfl gN rfl x3.cs hgr3 hundN rfl hxs3 ?_) | fail)
      refine (kput V2 a1 c1 l1 x3 hll hrow3).mono ?_
      rintro e W9 ⟨v9, rfl, ho9, hb9⟩
      obtain ⟨a9, c9, hv9, -, -, -⟩ := ho9.slice pn_len
      subst hv9
      have hf9 : ∃ l9 : List PN, RowN W9 a9 l9 ∧ namesP l9 = putsX j d1.n.label (ps.map (·.is)) ms rs (i + 1) (namesP l) ∧ l9.length = (putP l1 x3).length ∧ l9.length ≤ l1.length + 1 := ⟨putP l1 x3, put_rowN ho9 hrow3 hxa3 hb9, by rw [put_names, hl1.out, putsX_next, hx3n.out]; unfold putX; rw [hpin.out], rfl, put_len l1 x3⟩
      obtain ⟨l9, hr9, hn9, hle9, hlen9⟩ := hf9
      rw [← hle9]
      have hBB9 := Below.then hBr3 hb9
      have hnd9 := stab_blk _ _ _ _ hnd hBB9
      clear ho9 hb9 hrow3 hxa3 hBr3 hle9
      go_wp2_with fail
      exact ⟨⟨i + 1, l9, a9, c9, by omega, by omega, by simp, rfl, hr9, hn9, by omega, hnd9, Below.then hBr hBB9⟩, by simp [Go.RowKit.intOf]; omega⟩
     ·have i6 : ¬ (i : Int) < (nr : Int) := by rw [← hnr.out]; omega
      have hrgx : rgX rs i = ⟨4, 4, 4, 0⟩ := by
       unfold rgX
       rw [if_neg hri]
      obtain ⟨x3, hx3⟩ : ∃ x3, x3 = x2 := ⟨_, rfl⟩
      rw [← hx3] at hgo_x2 hgr_x2 hwo_x2 hx2n
      clear hx3
      have hx3n : Aside (x3.n = segX (pS j i) d1.n.label (mdX ms i) (rgX rs i) (wordsN pp.is)) := by
       show _ = _
       rw [hrgx, hx2n.out]
      have hxa3 := own_at hgr_x2 hwo_x2
      have hBr3 : Below wr.heap.size wr wc := hBw_x2
      have hrow3 := hrow.below hBr3
      have hxs3 : (Tryz.prog.info? 36).map (·.size) = some x3.cs.length := by rw [pn_len]; exact hszN
      have hgr3 := hgo_x2.range
      go_wp2_with (first | (refine wpList_load_row rfl _ rfl gN rfl x3.cs hgr3 hundN rfl hxs3 ?_) | fail)
      refine (kput wc a1 c1 l1 x3 hll hrow3).mono ?_
      rintro e W9 ⟨v9, rfl, ho9, hb9⟩
      obtain ⟨a9, c9, hv9, -, -, -⟩ := ho9.slice pn_len
      subst hv9
      have hf9 : ∃ l9 : List PN, RowN W9 a9 l9 ∧ namesP l9 = putsX j d1.n.label (ps.map (·.is)) ms rs (i + 1) (namesP l) ∧ l9.length = (putP l1 x3).length ∧ l9.length ≤ l1.length + 1 := ⟨putP l1 x3, put_rowN ho9 hrow3 hxa3 hb9, by rw [put_names, hl1.out, putsX_next, hx3n.out]; unfold putX; rw [hpin.out], rfl, put_len l1 x3⟩
      obtain ⟨l9, hr9, hn9, hle9, hlen9⟩ := hf9
      rw [← hle9]
      have hBB9 := Below.then hBr3 hb9
      have hnd9 := stab_blk _ _ _ _ hnd hBB9
      clear ho9 hb9 hrow3 hxa3 hBr3 hle9
      go_wp2_with fail
      exact ⟨⟨i + 1, l9, a9, c9, by omega, by omega, by simp, rfl, hr9, hn9, by omega, hnd9, Below.then hBr hBB9⟩, by simp [Go.RowKit.intOf]; omega⟩
end Go.Proofs.YtidihdiffiffmaaGreatDoor
namespace Go.Proofs.YtidihdiffiffmaaGreatDoor
open Go.ChangeShapes Go.WideShapes Go.ChangeAt Go.RowKit
set_option maxRecDepth 8000
set_option linter.unusedVariables false
set_option linter.unusedSimpArgs false
theorem reads_rowsP {α : Type} {H : Type} {enc : TypeId × Value → H} {W : World} {t e : TypeId} {sz : Nat} {f : α → List Value} {q : α → Prop} (ht : Tryz.prog.underlying t = some (.slice e)) (hc : Tryz.prog.cellsOf e = sz) (hp : Reads enc W 0 (fun _ => true) true e fun cs => ∃ g, cs = f g ∧ q g) :
    Reads enc W 0 (fun _ => true) true t fun cs => ∃ (l : List α) (a : Option Addr) (cap : Nat), cs = [.slice a l.length cap] ∧ RowAt sz f W a l ∧ (∀ g ∈ l, q g) ∧ l.length ≤ cap ∧ cap ≤ 9223372036854775807 := fun n cs x h => by
 have h' := h
 rcases Go.Deep.open_slice ht h with ⟨hcs, _⟩ | ⟨ad, l, c', m, n', Dd, Pl, hcs, _⟩
 ·subst hcs
  obtain ⟨L, hL, h1, h2, h3, h4, h5⟩ := open_rows (f := f) (q := q) ht hc hp h'
  exact ⟨L, _, _, by rw [hL], h1, h2, by omega, h5⟩
 ·subst hcs
  obtain ⟨L, hL, h1, h2, h3, h4, h5⟩ := open_rows (f := f) (q := q) ht hc hp h'
  exact ⟨L, _, _, by rw [hL], h1, h2, by omega, h5⟩
section
variable {H : Type} {enc : TypeId × Value → H} {W : World}
theorem undInsP : Tryz.prog.underlying 80 = some (.struct (Tryz.prog.fieldsOf 80)) := by kernel_rfl
theorem cInsP : Tryz.prog.cellsOf 80 = 3 := by kernel_rfl
theorem reads_insP {base : Nat} {sp : Nat → Bool} {held : Bool} : Reads enc W base sp held 80 fun cs => ∃ i : Ins, cs = ins3 i ∧ True := fun n cs x h => by
 have hl := struct_len undInsP cInsP h
 obtain ⟨o, e0, w0⟩ := read_field (i := 0) (ty := 3) (off := 0) undInsP (by kernel_rfl) cInt (reads_int Tryz.underlying3) h
 obtain ⟨p, e1, w1⟩ := read_field (i := 1) (ty := 3) (off := 1) undInsP (by kernel_rfl) cInt (reads_int Tryz.underlying3) h
 obtain ⟨q, e2, w2⟩ := read_field (i := 2) (ty := 3) (off := 2) undInsP (by kernel_rfl) cInt (reads_int Tryz.underlying3) h
 match cs, hl with
 | [v0, v1, v2], _ =>
  simp at e0 e1 e2
  subst e0 e1 e2
  exact ⟨⟨o, p, q⟩, rfl, trivial⟩
theorem undPgP : Tryz.prog.underlying 92 = some (.struct (Tryz.prog.fieldsOf 92)) := by kernel_rfl
theorem cPgP : Tryz.prog.cellsOf 92 = 1 := by kernel_rfl
theorem cInssP : Tryz.prog.cellsOf 81 = 1 := by kernel_rfl
theorem reads_pgP : Reads enc W 0 (fun _ => true) true 92 fun cs => ∃ x : PPg, cs = pgcl x ∧ x.At W := fun n cs x h => by
 have hl := struct_len undPgP cPgP h
 obtain ⟨is, a, c, e0, hr, -, h1, h2⟩ := read_field (i := 0) (ty := 81) (off := 0) undPgP (by kernel_rfl) cInssP (reads_rowsP (f := ins3) Tryz.underlying81 cInsP reads_insP) h
 match cs, hl with
 | [v0], _ =>
  simp at e0
  subst e0
  exact ⟨⟨is, a, c⟩, rfl, hr, by show is.length ≤ 9223372036854775807; omega⟩
theorem open_pgs {n : Nat} {a : Option Addr} {len cap : Nat} {x : DataW H × List MemPlace} (h : DataW.trod enc Tryz.prog W 0 (fun _ => true) true n 24 [.slice a len cap] = some x) : ∃ l : List PPg, l.length = len ∧ RowAt 1 pgcl W a l ∧ (∀ g ∈ l, g.At W) ∧ len ≤ cap ∧ (len : Int) ≤ 9223372036854775807 := by
 obtain ⟨l, hl, hc, hf, _, h1, h2⟩ := open_rows (f := pgcl) (q := fun g : PPg => g.At W) Tryz.underlying24 cPgP reads_pgP h
 exact ⟨l, hl, hc, hf, h1, by omega⟩
theorem reads_mkF : Reads enc W 0 (fun _ => true) true 129 fun cs => ∃ x : PM, cs = x.cs ∧ (x.At W ∧ ∀ w ∈ x.m.words, -9223372036854775808 ≤ w ∧ w ≤ 9223372036854775807) := fun fu cs x h => by
 have hl := struct_len undMk cMk h
 obtain ⟨ps, pa, pc, e0, hp, hpq, _, _⟩ := read_field (i := 0) (ty := 25) (off := 0) undMk (by kernel_rfl) cInts (reads_rows (f := icell) Tryz.underlying25 cInt reads_ic cInts) h
 obtain ⟨di, e1⟩ := read_field (i := 1) (ty := 4) (off := 1) undMk (by kernel_rfl) cBool (reads_bool Tryz.underlying4) h
 obtain ⟨la, e2, _⟩ := read_field (i := 2) (ty := 30) (off := 2) undMk (by kernel_rfl) cLab reads_lab h
 obtain ⟨gs, aa, ca, e3, hg, hgq, _, _⟩ := read_field (i := 3) (ty := 31) (off := 6) undMk (by kernel_rfl) cGrs (reads_rows (f := gcells) Tryz.underlying31 cGr reads_gr cGrs) h
 obtain ⟨r1, r2, r3, r4, e4⟩ := read_field (i := 4) (ty := 33) (off := 7) undMk (by kernel_rfl) cRi reads_ri h
 obtain ⟨ws, wa, cw, e5, hv, hvq, hno, hle⟩ := read_field (i := 5) (ty := 34) (off := 11) undMk (by kernel_rfl) cWds (reads_rows (f := wcell) Tryz.underlying34 cI64 reads_wd cWds) h
 obtain ⟨lb, e6, _⟩ := read_field (i := 6) (ty := 30) (off := 12) undMk (by kernel_rfl) cLab reads_lab h
 match cs, hl with
 | [v0, v1, v2, v3, v4, v5, v6, v7, v8, v9, v10, v11, v12, v13, v14, v15], _ =>
  simp [lcells] at e0 e1 e2 e3 e4 e5 e6
  obtain ⟨rfl, rfl, rfl, rfl⟩ := e2
  obtain ⟨rfl, rfl, rfl, rfl⟩ := e4
  obtain ⟨rfl, rfl, rfl, rfl⟩ := e6
  subst e0 e1 e3 e5
  exact ⟨⟨⟨ps, di, la, gs, ⟨r1, r2, r3, r4⟩, ws, lb⟩, pa, pc, aa, ca, wa, cw⟩, rfl, ⟨hp, RowAt.grs hg, RowAt.wrds hv, hpq⟩, hvq⟩
theorem open_mksF {n : Nat} {a : Option Addr} {len cap : Nat} {x : DataW H × List MemPlace} (h : DataW.trod enc Tryz.prog W 0 (fun _ => true) true n 23 [.slice a len cap] = some x) : ∃ l : List PM, l.length = len ∧ RowM W a l ∧ FitM (l.map (·.m)) := by
 obtain ⟨l, hl, hc, hf, _⟩ := open_rows (f := PM.cs) (q := fun x => x.At W ∧ ∀ w ∈ x.m.words, -9223372036854775808 ≤ w ∧ w ≤ 9223372036854775807) Tryz.underlying23 cMk reads_mkF h
 exact ⟨l, hl, ⟨hc, fun x hx => (hf x hx).1⟩, fun m hm => by
  obtain ⟨x, hx, rfl⟩ := List.mem_map.1 hm
  exact (hf x hx).2⟩
end
end Go.Proofs.YtidihdiffiffmaaGreatDoor
namespace Go.Proofs.YtidihdiffiffmaaGreatDoor
open Go.RowKit
set_option maxRecDepth 8000
set_option linter.unusedSimpArgs false
set_option linter.unusedVariables false
def gotP (l : List PN) (p : ByteArray) : PN := (findP l p).getD zeroP
theorem gotP_n (l : List PN) (p : ByteArray) : (gotP l p).n = gotN (namesP l) p := by
 unfold gotP gotN
 rw [find_names]
 cases findP l p <;> rfl
def segQ (l : List PN) (u : ByteArray) (t : Lab) (p : ByteArray) : PG :=
 if seeE (namesP l) t p ≠ 0 ∨ (gotN (namesP l) p).dir = true then zeroPG else ⟨segP (namesP l) u t p, (gotP l p).wa, (gotP l p).cw⟩
theorem segQ_g (l : List PN) (u : ByteArray) (t : Lab) (p : ByteArray) : (segQ l u t p).g = segP (namesP l) u t p := by
 unfold segQ
 by_cases h : seeE (namesP l) t p ≠ 0 ∨ (gotN (namesP l) p).dir = true
 ·rw [if_pos h]; unfold segP; rw [if_pos h]; rfl
 ·rw [if_neg h]
structure SGq (w W : World) (u : ByteArray) (t : Lab) : Prop where
 bl : Below w.heap.size w W
 bx : BlkL w.heap.size (sbL u t) W
 rs : BlkL (w.heap.size + 1) zeroPG.cs W
theorem SGq.then {w W W' : World} {u : ByteArray} {t : Lab} (h : SGq w W u t) (b : Below W.heap.size W W') : SGq w W' u t := ⟨Below.then h.bl b, stab_blk _ _ _ _ h.bx b, stab_blk _ _ _ _ h.rs b⟩
def modK (L : List Nod) (u : ByteArray) (t : Lab) (p : ByteArray) : Nat → Int
 | 0 => 0
 | 1 => mayI L u t p 1
 | 2 => mayI L u t p 1 + mayI L u t p 2
 | _ => modsP L u t p
def bitK : Nat → Int
 | 0 => 1
 | 1 => 2
 | 2 => 4
 | _ => 8
theorem modK_step (L : List Nod) (u : ByteArray) (t : Lab) (p : ByteArray) {i : Nat} (hi : i < 3) :
    (mayE L u t p (bitK i) = 0 → bits .or .i64 (modK L u t p i) (bitK i) = modK L u t p (i + 1)) ∧ (mayE L u t p (bitK i) ≠ 0 → modK L u t p i = modK L u t p (i + 1)) ∧ bitK i ≤ 4 ∧ IntKind.i64.wrap (2 * bitK i) = bitK (i + 1) := by
 have hw : ∀ x : Int, IntKind.i64.wrap x = x ∨ True := fun _ => .inr trivial
 match i, hi with
 | 0, _ =>
  refine ⟨fun h => ?_, fun h => ?_, by decide, by decide⟩
  ·show bits .or .i64 0 1 = mayI L u t p 1
   unfold mayI
   rw [if_pos (show mayE L u t p 1 = 0 from h)]
   decide
  ·show (0 : Int) = mayI L u t p 1
   unfold mayI
   rw [if_neg (show ¬ mayE L u t p 1 = 0 from h)]
 | 1, _ =>
  refine ⟨fun h => ?_, fun h => ?_, by decide, by decide⟩
  ·show bits .or .i64 (mayI L u t p 1) 2 = mayI L u t p 1 + mayI L u t p 2
   unfold mayI
   rw [if_pos (show mayE L u t p 2 = 0 from h)]
   by_cases h1 : mayE L u t p 1 = 0
   ·rw [if_pos h1]; decide
   ·rw [if_neg h1]; decide
  ·show mayI L u t p 1 = mayI L u t p 1 + mayI L u t p 2
   unfold mayI
   rw [if_neg (show ¬ mayE L u t p 2 = 0 from h)]
   omega
 | 2, _ =>
  refine ⟨fun h => ?_, fun h => ?_, by decide, by decide⟩
  ·show bits .or .i64 (mayI L u t p 1 + mayI L u t p 2) 4 = modsP L u t p
   unfold modsP mayI
   rw [if_pos (show mayE L u t p 4 = 0 from h)]
   by_cases h1 : mayE L u t p 1 = 0 <;> by_cases h2 : mayE L u t p 2 = 0 <;> simp only [h1, h2, if_true, if_false] <;> decide
  ·show mayI L u t p 1 + mayI L u t p 2 = modsP L u t p
   unfold modsP
   have : mayI L u t p 4 = 0 := by unfold mayI; rw [if_neg (show ¬ mayE L u t p 4 = 0 from h)]
   omega
end Go.Proofs.YtidihdiffiffmaaGreatDoor
namespace Go.Proofs.YtidihdiffiffmaaGreatDoor
open Go.RowKit
set_option maxRecDepth 8000
set_option linter.unusedSimpArgs false
set_option linter.unusedVariables false
theorem zeroP_at (W : World) : zeroP.At W := ⟨fun j g hg => by simp [zeroP] at hg, fun j g hg => by simp [zeroP] at hg⟩
theorem PartsN.at {l A M B : List PN} {u : ByteArray} (p : PartsN l u A M B) {x : PN} (hx : findP l u = some x) : l[A.length]? = some x ∧ (!M.isEmpty) = true := by
 rw [p.find] at hx
 cases M with
 | nil => cases hx
 | cons m r =>
  obtain rfl : m = x := by simpa using hx
  rw [p.eq, List.getElem?_append_right (Nat.le_refl _)]
  simp
theorem PartsN.not {l A M B : List PN} {u : ByteArray} (p : PartsN l u A M B) (hx : findP l u = none) : (!M.isEmpty) = false := by
 rw [p.find] at hx
 cases M with
 | nil => rfl
 | cons m r => cases hx
set_option maxRecDepth 8000 in
set_option maxHeartbeats 2000000 in
theorem tfindO_any (a : Option Addr) (cap : Nat) (l : List PN) (p : ByteArray) (hl : l.length ≤ 100000) (ho : OrdP l) (hf : ∀ x ∈ l, x.Few) (w : World) (h : RowN w a l) :
    Calls Tryz.prog 77 #[.slice a l.length cap, .string p] w fun e w' => ∃ y : PN, e = .returned (.tuple #[.agg y.cs.toArray, .bool (findP l p).isSome]) ∧ y.n = ((findP l p).getD zeroP).n ∧ y.At w' ∧ Below w.heap.size w w' ∧ y.Own w.heap.size w' := by
 have hund := Tryz.underlying36
 have hsz : (Tryz.prog.info? 36).map (·.size) = some 16 := by kernel_rfl
 obtain ⟨A, M, B, hP⟩ := partsN_of p l ho
 obtain ⟨fr, hfr⟩ : ∃ fr, findP l p = fr := ⟨_, rfl⟩
 rw [hfr]
 have hb0 := blkl_alloc w zeroP.cs.toArray 36
 have hB0 := alloc_below w (.cells zeroP.cs.toArray 36)
 have hz0 : zeroP.cs = [.string ⟨#[]⟩, .bool false, .int .i64 0, .int .i64 0, .int .i64 0, .int .i64 0, .slice none 0 0, .int .i64 0, .int .i64 0, .int .i64 0, .int .i64 0, .slice none 0 0, .int .i64 0, .int .i64 0, .int .i64 0, .int .i64 0] := rfl
 rw [hz0] at hb0 hB0
 have hrow := h.below hB0
 have kp := fun W (q : RowN W a l) => place_any W a cap l A M B p hP q hl
 obtain ⟨n, hn⟩ : ∃ n, l.length = n := ⟨_, rfl⟩
 rw [hn] at kp ⊢
 replace hn : Aside (l.length = n) := hn
 go_enter Tryz.func77, Tryz.ntmps77
 go_wp2_with fail
 generalize w.alloc (.cells #[.string ⟨#[]⟩, .bool false, .int .i64 0, .int .i64 0, .int .i64 0, .int .i64 0, .slice none 0 0, .int .i64 0, .int .i64 0, .int .i64 0, .int .i64 0, .slice none 0 0, .int .i64 0, .int .i64 0, .int .i64 0, .int .i64 0] 36) = W at *
 refine (kp W hrow).mono ?_
 rintro e W1 ⟨rfl, hB1⟩
 have hB01 := Below.then hB0 hB1
 have hb1 := stab_blk _ _ _ _ hb0 hB1
 have hrow1 := hrow.below hB1
 have hlt1 : w.heap.size < W1.heap.size := hb1.2
 clear kp hb0 hB0 hrow hB1
 cases fr with
 | none =>
  rw [hP.not hfr]
  have hk := hb1.1.setAll (cs := zeroP.cs) rfl
  have hBz : Below w.heap.size w (W1.setCells w.heap.size 0 zeroP.cs) := Below.cells (Nat.le_refl _) zeroP.cs 0 hB01
  have ht : W1.there w.heap.size 0 zeroP.cs.length := hb1.1.there
  obtain ⟨W2, hW2⟩ : ∃ W', W1.setCells w.heap.size 0 zeroP.cs = W' := ⟨_, rfl⟩
  rw [hW2] at hk hBz
  clear hb1 hP hfr
  go_wp2_with (first | (refine wpList_store_row rfl _ _ rfl w.heap.size rfl zeroP.cs rfl ht hsz (pn_one zeroP) hW2 ?_) | fail)
  refine bodyPost_ret (v := .tuple #[.agg zeroP.cs.toArray, .bool false]) (results_row2 rfl _ _ w.heap.size rfl (.bool false) rfl zeroP.cs hk.range hund rfl hsz) rfl ?_
  exact ⟨zeroP, rfl, rfl, zeroP_at _, hBz, .inl rfl, .inl rfl⟩
 | some x =>
  obtain ⟨hx, hm⟩ := hP.at hfr
  rw [hm]
  have hxm := List.mem_of_getElem? hx
  have hlt := (List.getElem?_eq_some_iff.1 hx).1
  rw [hn.out] at hlt
  obtain ⟨y0, rfl⟩ := h.some_ hx
  have hw := hrow1.r.at pn_len hx
  have ko := own_any x (hf x hxm) W1 (hrow1.p x hxm)
  obtain ⟨cs, hcs⟩ : ∃ cs, x.cs = cs := ⟨_, rfl⟩
  have hlen : cs.length = 16 := by rw [← hcs]; rfl
  rw [hcs] at hw ko
  have hsz1 : (Tryz.prog.info? 36).map (·.size) = some cs.length := by rw [hlen]; exact hsz
  obtain ⟨k, hk⟩ : ∃ k, A.length = k := ⟨_, rfl⟩
  rw [hk] at hw hlt ⊢
  clear hcs hk hx hfr hm hP h
  go_wp2_with (first | (refine wpList_load_at rfl _ rfl (y0.add (k * 16)) rfl cs hw hund rfl hsz1 ?_) | fail)
  refine ko.mono ?_
  rintro e W2 ⟨y, rfl, hyn, hya, hyo, hB2⟩
  have hb2 := stab_blk _ _ _ _ hb1 hB2
  have hB02 := Below.then hB01 hB2
  clear ko hw hb1
  have hk := hb2.1.setAll (cs := y.cs) rfl
  have hBz : Below w.heap.size w (W2.setCells w.heap.size 0 y.cs) := Below.cells (Nat.le_refl _) y.cs 0 hB02
  have ht : W2.there w.heap.size 0 y.cs.length := hb2.1.there
  have hyz := hya.cells hyo hlt1 0 y.cs
  have hyw : y.Own w.heap.size (W2.setCells w.heap.size 0 y.cs) := hyo.lower (by omega) (Below.cells (B := w.heap.size) (Nat.le_refl _) y.cs 0 (Below.refl _ W2)).size
  obtain ⟨W3, hW3⟩ : ∃ W', W2.setCells w.heap.size 0 y.cs = W' := ⟨_, rfl⟩
  rw [hW3] at hk hBz hyz hyw
  clear hb2 hya hB2
  go_wp2_with (first | (refine wpList_store_row rfl _ _ rfl w.heap.size rfl y.cs rfl ht hsz (pn_one y) hW3 ?_) | fail)
  refine bodyPost_ret (v := .tuple #[.agg y.cs.toArray, .bool true]) (results_row2 rfl _ _ w.heap.size rfl (.bool true) rfl y.cs hk.range hund rfl hsz) rfl ?_
  exact ⟨y, rfl, hyn, hyz, hBz, hyw⟩
theorem tfind_any (a : Option Addr) (cap : Nat) (l : List PN) (p : ByteArray) (hl : l.length ≤ 100000) (ho : OrdP l) (hf : ∀ x ∈ l, x.Few) (w : World) (h : RowN w a l) :
    Calls Tryz.prog 77 #[.slice a l.length cap, .string p] w fun e w' => ∃ y : PN, e = .returned (.tuple #[.agg y.cs.toArray, .bool (findP l p).isSome]) ∧ y.n = ((findP l p).getD zeroP).n ∧ y.At w' ∧ Below w.heap.size w w' := by
 refine (tfindO_any a cap l p hl ho hf w h).mono ?_
 rintro e w' ⟨y, h1, h2, h3, h4, _⟩
 exact ⟨y, h1, h2, h3, h4⟩
structure Pc where
 a : Option Addr
 c : Nat
 l : List PN
def Pc.cs (x : Pc) : List Value := [.slice x.a x.l.length x.c]
end Go.Proofs.YtidihdiffiffmaaGreatDoor
namespace Go.Proofs.YtidihdiffiffmaaGreatDoor
open Go.RowKit
set_option maxRecDepth 8000
set_option linter.unusedSimpArgs false
set_option linter.unusedVariables false
theorem FineL.few {l : List PN} (h : FineL l) : ∀ x ∈ l, x.Few := fun x hx => by
 obtain ⟨_, _, _, hA, hd, hs⟩ := nodC_zero.1 (h.ok x hx)
 refine ⟨(acl_sorted hA).2, ?_⟩
 cases hq : x.n.dir
 ·have := (hs hq).2.2; omega
 ·have := (hd hq).2; omega
theorem FineL.lab {l : List PN} (h : FineL l) {x : PN} (hx : x ∈ l) : GL x.n.label := (nodC_zero.1 (h.ok x hx)).2.1
theorem findP_in {l : List PN} {p : ByteArray} {d : PN} (h : findP l p = some d) : d ∈ l := List.mem_of_find?_eq_some h
theorem nd_labL {W : World} {g : Nat} {x : PN} (h : BlkL g [.string x.n.path, .bool x.n.dir, .int .i64 x.n.label.s, .int .i64 x.n.label.c, .int .i64 x.n.label.i, .int .i64 x.n.label.k, .slice x.aa x.n.acl.length x.ca, .int .i64 x.n.r1, .int .i64 x.n.r2, .int .i64 x.n.r3, .int .i64 x.n.gates, .slice x.wa x.n.words.length x.cw, .int .i64 x.n.by_.s, .int .i64 x.n.by_.c, .int .i64 x.n.by_.i, .int .i64 x.n.by_.k] W) : CellsAt W ⟨g, 2, none⟩ (labM x.n.label) := nd_lab (x := x) h
theorem bits_not : ∀ M m : Fin 8, (bits .andNot .i64 ((m.val : Nat) : Int) ((M.val : Nat) : Int) != 0) = (bits .and .i64 ((M.val : Nat) : Int) ((m.val : Nat) : Int) != ((m.val : Nat) : Int)) := by decide +kernel
theorem cells_size (W : World) (b o : Nat) (vs : List Value) : W.heap.size ≤ (W.setCells b o vs).heap.size := (Below.cells (B := b) (Nat.le_refl _) vs o (Below.refl _ W)).size
theorem check_first {ns : List ByteArray} (hn : Names ns) : (bytes (pathB ns)).getD 0 0 = 47 := by
 by_cases h : ns = []
 ·rw [h, pathB_nil]; rfl
 ·rw [pathB_bytes h]
  cases ns with
  | nil => exact absurd rfl h
  | cons x r => rfl
theorem lover_rov {a b : Lab} (ha : GL a) (hb : GL b) (w : World) :
    Calls Tryz.prog 78 #[a.v, b.v] w fun e w' => e = .returned (.bool (rov a b)) ∧ Below w.heap.size w w' := by
 have h := lover_any a b w
 obtain ⟨A, rfl, hA⟩ := ha.nl
 obtain ⟨B, rfl, hB⟩ := hb.nl
 rw [rov_ov hA hB]
 exact h
set_option maxRecDepth 20000 in
set_option maxHeartbeats 4000000 in
theorem menter_any (a : Option Addr) (cap : Nat) (l : List PN) (u : ByteArray) (t : Lab) (p : ByteArray) (hF : FineL l) (hGt : GL t) (w : World) (h : RowN w a l) :
    Calls Tryz.prog 75 #[.slice a l.length cap, .agg (sbL u t).toArray, .string p] w fun e w' => e = .returned (.int .i64 (stepE t (findN (namesP l) p))) ∧ Below w.heap.size w w' := by
 have hund := Tryz.underlying36
 have hundL := Tryz.underlying30
 have hszN : (Tryz.prog.info? 36).map (·.size) = some 16 := by kernel_rfl
 have hsl : (Tryz.prog.info? 30).map (·.size) = some 4 := by kernel_rfl
 obtain ⟨E, hE⟩ : ∃ E, stepE t (findN (namesP l) p) = E := ⟨_, rfl⟩
 rw [hE]
 rw [find_names] at hE
 have hbs := blkl_alloc w (sbL u t).toArray 52
 have hB0 := alloc_below w (.cells (sbL u t).toArray 52)
 replace hbs : BlkL w.heap.size (sbL u t) (w.alloc (.cells (sbL u t).toArray 52)) := hbs
 have kf := fun W (q : RowN W a l) => tfind_any a cap l p (by have := hF.len; omega) (ordP.1 hF.ord) hF.few W q
 obtain ⟨fr, hfr⟩ : ∃ fr, findP l p = fr := ⟨_, rfl⟩
 rw [hfr] at kf hE
 have hlab : ∀ d, fr = some d → GL d.n.label := fun d q => hF.lab (findP_in (hfr.trans q))
 obtain ⟨n, hn⟩ : ∃ n, l.length = n := ⟨_, rfl⟩
 rw [hn] at kf ⊢
 replace hn : Aside (l.length = n) := hn
 clear hfr
 go_enter Tryz.func75, Tryz.ntmps75
 go_wp2_with fail
 generalize w.alloc (.cells (sbL u t).toArray 52) = W0 at *
 cases fr with
 | none =>
  rw [Option.isSome_none] at kf
  obtain rfl : E = 2 := hE.symm
  refine (kf W0 (h.below hB0)).mono ?_
  rintro e W3 ⟨y, rfl, hy, hya, hB3⟩
  obtain ⟨W4, hW4, hth4, hbn, hB4⟩ := put_new W3 zN 36 y.cs (by rw [pn_len]; rfl) (by rw [pn_len]; omega)
  have hB := Below.then hB0 (Below.then hB3 hB4)
  clear kf hbs hya hy
  go_wp2_with (first | (refine wpList_store_row rfl _ _ rfl W3.heap.size rfl y.cs rfl hth4 (by rw [pn_len]; exact hszN) (pn_one y) hW4 ?_) | fail)
  go_ret
  exact ⟨rfl, hB⟩
 | some d =>
  rw [Option.isSome_some] at kf
  have hGd := hlab d rfl
  replace hE : Aside (stepE t (some d.n) = E) := hE
  refine (kf W0 (h.below hB0)).mono ?_
  rintro e W3 ⟨y, rfl, hy, hya, hB3⟩
  replace hy : y.n = d.n := hy
  rw [← hy] at hE hGd
  obtain ⟨W4, hW4, hth4, hbn, hB4⟩ := put_new W3 zN 36 y.cs (by rw [pn_len]; rfl) (by rw [pn_len]; omega)
  have hB := Below.then hB0 (Below.then hB3 hB4)
  replace hbs := stab_blk _ _ _ _ hbs (Below.then hB3 hB4)
  have hz1 := (hbn.1 1 _ rfl).1
  have hcb := sb_lab hbs
  have hcn := nd_lab hbn
  clear kf hya hlab hy hbs hbn
  cases hd : y.n.dir
  ·obtain rfl : E = 3 := by rw [← hE.out]; unfold stepE; simp [hd]
   rw [hd] at hz1
   go_wp2_with (first | (refine wpList_store_row rfl _ _ rfl W3.heap.size rfl y.cs rfl hth4 (by rw [pn_len]; exact hszN) (pn_one y) hW4 ?_) | fail)
   go_ret
   exact ⟨rfl, hB⟩
  ·rw [hd] at hz1
   have kv := lover_rov hGt hGd W4
   cases hr : rov t y.n.label
   ·obtain rfl : E = 15 := by rw [← hE.out]; unfold stepE; simp [hd, hr]
    rw [hr] at kv
    go_wp2_with (first | (refine wpList_store_row rfl _ _ rfl W3.heap.size rfl y.cs rfl hth4 (by rw [pn_len]; exact hszN) (pn_one y) hW4 ?_) | (refine wpList_load_at rfl _ rfl ⟨w.heap.size, 1, none⟩ rfl (labM t) hcb hundL rfl hsl ?_) | (refine wpList_load_at rfl _ rfl ⟨W3.heap.size, 2, none⟩ rfl (labM y.n.label) hcn hundL rfl hsl ?_) | fail)
    refine kv.mono ?_
    rintro e W5 ⟨rfl, hB5⟩
    have hfin := Below.then hB hB5
    go_wp2_with fail
    go_ret
    exact ⟨rfl, hfin⟩
   ·obtain rfl : E = 0 := by rw [← hE.out]; unfold stepE; simp [hd, hr]
    rw [hr] at kv
    go_wp2_with (first | (refine wpList_store_row rfl _ _ rfl W3.heap.size rfl y.cs rfl hth4 (by rw [pn_len]; exact hszN) (pn_one y) hW4 ?_) | (refine wpList_load_at rfl _ rfl ⟨w.heap.size, 1, none⟩ rfl (labM t) hcb hundL rfl hsl ?_) | (refine wpList_load_at rfl _ rfl ⟨W3.heap.size, 2, none⟩ rfl (labM y.n.label) hcn hundL rfl hsl ?_) | fail)
    refine kv.mono ?_
    rintro e W5 ⟨rfl, hB5⟩
    have hfin := Below.then hB hB5
    go_wp2_with fail
    go_ret
    exact ⟨rfl, hfin⟩
set_option maxRecDepth 20000 in
set_option maxHeartbeats 4000000 in
theorem muse_any (x : PN) (u : ByteArray) (t : Lab) (m : Int) (hm1 : 1 ≤ m) (hm7 : m ≤ 7) (hGt : GL t) (hGx : GL x.n.label) (hA : chkA x.n.acl = 0) (w : World) (h : x.At w) :
    Calls Tryz.prog 40 #[.agg x.cs.toArray, .agg (sbL u t).toArray, .int .i64 m] w fun e w' => e = .returned (.int .i64 (modE x.n u t m)) ∧ Below w.heap.size w w' := by
 have hund := Tryz.underlying36
 have hundL := Tryz.underlying30
 have hsl : (Tryz.prog.info? 30).map (·.size) = some 4 := by kernel_rfl
 obtain ⟨E, hE⟩ : ∃ E, modE x.n u t m = E := ⟨_, rfl⟩
 rw [hE]
 unfold modE at hE
 have hso := (acl_sorted hA).1
 have hac := (acl_sorted hA).2
 obtain ⟨MM, hMM⟩ : ∃ MM, modesL x.n.acl u = MM := ⟨_, rfl⟩
 have hnot : (bits .andNot .i64 m MM != 0) = (bits .and .i64 MM m != m) := by
  obtain ⟨b0, b7⟩ := modes_range hA u
  rw [hMM] at b0 b7
  obtain ⟨M8, rfl⟩ := fin8 b0 b7
  obtain ⟨m8, rfl⟩ := fin8 (show 0 ≤ m by omega) hm7
  exact bits_not M8 m8
 rw [hMM] at hE
 have hb1 := alloc_below w (.cells x.cs.toArray 36)
 have hb2 := alloc_below (w.alloc (.cells x.cs.toArray 36)) (.cells (sbL u t).toArray 52)
 have hbx := stab_blk _ _ _ _ (blkl_alloc w x.cs.toArray 36) hb2
 have hbs := blkl_alloc (w.alloc (.cells x.cs.toArray 36)) (sbL u t).toArray 52
 rw [World.size_alloc] at hbs
 replace hbs : BlkL (w.heap.size + 1) (sbL u t) _ := hbs
 have hB := Below.then hb1 hb2
 have hxa := h.below hB
 have hcs : x.cs = [.string x.n.path, .bool x.n.dir, .int .i64 x.n.label.s, .int .i64 x.n.label.c, .int .i64 x.n.label.i, .int .i64 x.n.label.k, .slice x.aa x.n.acl.length x.ca, .int .i64 x.n.r1, .int .i64 x.n.r2, .int .i64 x.n.r3, .int .i64 x.n.gates, .slice x.wa x.n.words.length x.cw, .int .i64 x.n.by_.s, .int .i64 x.n.by_.c, .int .i64 x.n.by_.i, .int .i64 x.n.by_.k] := rfl
 rw [hcs] at hbx hbs hB hxa ⊢
 clear hb1 hb2 h hcs hm1 hm7
 have hnq : ∀ X, (binOp .neq 30 (.agg (labM t).toArray) (.agg (labM x.n.label).toArray)).run Tryz.prog X = .ok (.bool (!labEq t x.n.label)) X := run_neq_lab t x.n.label
 obtain ⟨A5, hA5⟩ : ∃ A5, bits .and .i64 m 5 = A5 := ⟨_, rfl⟩
 obtain ⟨A2, hA2⟩ : ∃ A2, bits .and .i64 m 2 = A2 := ⟨_, rfl⟩
 rw [hA5, hA2] at hE
 go_enter Tryz.func40, Tryz.ntmps40
 go_upto_region 1 with fail
 generalize (w.alloc (.cells ([.string x.n.path, .bool x.n.dir, .int .i64 x.n.label.s, .int .i64 x.n.label.c, .int .i64 x.n.label.i, .int .i64 x.n.label.k, .slice x.aa x.n.acl.length x.ca, .int .i64 x.n.r1, .int .i64 x.n.r2, .int .i64 x.n.r3, .int .i64 x.n.gates, .slice x.wa x.n.words.length x.cw, .int .i64 x.n.by_.s, .int .i64 x.n.by_.c, .int .i64 x.n.by_.i, .int .i64 x.n.by_.k]).toArray 36)).alloc (.cells (sbL u t).toArray 52) = W0 at *
 have hcb := sb_lab hbs
 have hcn := nd_labL hbx
 have kv := lover_rov hGt hGx W0
 cases hq5 : (A5 != 0)
 ·rw [hq5, if_neg (fun q => by cases q.1)] at hE
  clear kv
  go_upto_region 2 with (first | fail)
  clear hcb hcn
  have hcb := sb_lab hbs
  have hcn := nd_labL hbx
  cases hq2 : (A2 != 0)
  ·rw [hq2, if_neg (fun q => by cases q.1)] at hE
   go_upto_region 3 with (first | fail)
   clear hcb hcn
   have hz6 := (hbx.1 6 _ rfl).1
   have hz0 := (hbs.1 0 _ rfl).1
   have km := modes_any W0 x.aa x.ca x.n.acl u hso hxa.g hac
   rw [hMM] at km
   go_wp2_with fail
   refine km.mono ?_
   rintro e W7 ⟨rfl, hB7⟩
   have hfin := Below.then hB hB7
   clear km
   obtain ⟨AN, hAN⟩ : ∃ AN, bits .andNot .i64 m MM = AN := ⟨_, rfl⟩
   rw [hAN] at hnot
   cases hq : (AN != 0)
   ·rw [← hnot, hq, if_neg (by decide)] at hE
    clear hnot
    subst hE
    go_wp2_with fail
    go_ret
    exact ⟨rfl, hfin⟩
   ·rw [← hnot, hq, if_pos rfl] at hE
    clear hnot
    subst hE
    go_wp2_with fail
    go_ret
    exact ⟨rfl, hfin⟩
  ·cases hle : labEq t x.n.label
   ·rw [hle] at hnq
    rw [hq2, hle, if_pos ⟨rfl, rfl⟩] at hE
    subst hE
    go_wp2_with (first | (refine wpList_load_atg (by rfl) _ rfl ⟨w.heap.size + 1, 1, none⟩ rfl (labM t) hcb hundL rfl hsl ?_) | (refine wpList_load_atg (by rfl) _ rfl ⟨w.heap.size, 2, none⟩ rfl (labM x.n.label) hcn hundL rfl hsl ?_) | fail)
    go_ret
    exact ⟨rfl, hB⟩
   ·rw [hle] at hnq
    rw [hle, if_neg (fun q => by cases q.2)] at hE
    go_upto_region 3 with (first | (refine wpList_load_atg (by rfl) _ rfl ⟨w.heap.size + 1, 1, none⟩ rfl (labM t) hcb hundL rfl hsl ?_) | (refine wpList_load_atg (by rfl) _ rfl ⟨w.heap.size, 2, none⟩ rfl (labM x.n.label) hcn hundL rfl hsl ?_) | fail)
    clear hcb hcn
    have hz6 := (hbx.1 6 _ rfl).1
    have hz0 := (hbs.1 0 _ rfl).1
    have km := modes_any W0 x.aa x.ca x.n.acl u hso hxa.g hac
    rw [hMM] at km
    go_wp2_with fail
    refine km.mono ?_
    rintro e W7 ⟨rfl, hB7⟩
    have hfin := Below.then hB hB7
    clear km
    obtain ⟨AN, hAN⟩ : ∃ AN, bits .andNot .i64 m MM = AN := ⟨_, rfl⟩
    rw [hAN] at hnot
    cases hq : (AN != 0)
    ·rw [← hnot, hq, if_neg (by decide)] at hE
     clear hnot
     subst hE
     go_wp2_with fail
     go_ret
     exact ⟨rfl, hfin⟩
    ·rw [← hnot, hq, if_pos rfl] at hE
     clear hnot
     subst hE
     go_wp2_with fail
     go_ret
     exact ⟨rfl, hfin⟩
 ·cases hr : rov t x.n.label
  ·rw [hr] at kv
   rw [hq5, hr, if_pos ⟨rfl, rfl⟩] at hE
   subst hE
   go_wp2_with (first | (refine wpList_load_atg (by rfl) _ rfl ⟨w.heap.size + 1, 1, none⟩ rfl (labM t) hcb hundL rfl hsl ?_) | (refine wpList_load_atg (by rfl) _ rfl ⟨w.heap.size, 2, none⟩ rfl (labM x.n.label) hcn hundL rfl hsl ?_) | fail)
   refine kv.mono ?_
   rintro e W5 ⟨rfl, hB5⟩
   have hfin := Below.then hB hB5
   clear kv hcb hcn
   go_wp2_with fail
   go_ret
   exact ⟨rfl, hfin⟩
  ·rw [hr] at kv
   rw [hr, if_neg (fun q => by cases q.2)] at hE
   go_wp2_with (first | (refine wpList_load_atg (by rfl) _ rfl ⟨w.heap.size + 1, 1, none⟩ rfl (labM t) hcb hundL rfl hsl ?_) | (refine wpList_load_atg (by rfl) _ rfl ⟨w.heap.size, 2, none⟩ rfl (labM x.n.label) hcn hundL rfl hsl ?_) | fail)
   refine kv.mono ?_
   rintro e W5 ⟨rfl, hB5⟩
   replace hB := Below.then hB hB5
   replace hbx := stab_blk _ _ _ _ hbx hB5
   replace hbs := stab_blk _ _ _ _ hbs hB5
   replace hxa := hxa.below hB5
   clear kv hcb hcn
   go_upto_region 2 with fail
   have hcb := sb_lab hbs
   have hcn := nd_labL hbx
   cases hq2 : (A2 != 0)
   ·rw [hq2, if_neg (fun q => by cases q.1)] at hE
    go_upto_region 3 with (first | fail)
    clear hcb hcn
    have hz6 := (hbx.1 6 _ rfl).1
    have hz0 := (hbs.1 0 _ rfl).1
    have km := modes_any W5 x.aa x.ca x.n.acl u hso hxa.g hac
    rw [hMM] at km
    go_wp2_with fail
    refine km.mono ?_
    rintro e W7 ⟨rfl, hB7⟩
    have hfin := Below.then hB hB7
    clear km
    obtain ⟨AN, hAN⟩ : ∃ AN, bits .andNot .i64 m MM = AN := ⟨_, rfl⟩
    rw [hAN] at hnot
    cases hq : (AN != 0)
    ·rw [← hnot, hq, if_neg (by decide)] at hE
     clear hnot
     subst hE
     go_wp2_with fail
     go_ret
     exact ⟨rfl, hfin⟩
    ·rw [← hnot, hq, if_pos rfl] at hE
     clear hnot
     subst hE
     go_wp2_with fail
     go_ret
     exact ⟨rfl, hfin⟩
   ·cases hle : labEq t x.n.label
    ·rw [hle] at hnq
     rw [hq2, hle, if_pos ⟨rfl, rfl⟩] at hE
     subst hE
     go_wp2_with (first | (refine wpList_load_atg (by rfl) _ rfl ⟨w.heap.size + 1, 1, none⟩ rfl (labM t) hcb hundL rfl hsl ?_) | (refine wpList_load_atg (by rfl) _ rfl ⟨w.heap.size, 2, none⟩ rfl (labM x.n.label) hcn hundL rfl hsl ?_) | fail)
     go_ret
     exact ⟨rfl, hB⟩
    ·rw [hle] at hnq
     rw [hle, if_neg (fun q => by cases q.2)] at hE
     go_upto_region 3 with (first | (refine wpList_load_atg (by rfl) _ rfl ⟨w.heap.size + 1, 1, none⟩ rfl (labM t) hcb hundL rfl hsl ?_) | (refine wpList_load_atg (by rfl) _ rfl ⟨w.heap.size, 2, none⟩ rfl (labM x.n.label) hcn hundL rfl hsl ?_) | fail)
     clear hcb hcn
     have hz6 := (hbx.1 6 _ rfl).1
     have hz0 := (hbs.1 0 _ rfl).1
     have km := modes_any W5 x.aa x.ca x.n.acl u hso hxa.g hac
     rw [hMM] at km
     go_wp2_with fail
     refine km.mono ?_
     rintro e W7 ⟨rfl, hB7⟩
     have hfin := Below.then hB hB7
     clear km
     obtain ⟨AN, hAN⟩ : ∃ AN, bits .andNot .i64 m MM = AN := ⟨_, rfl⟩
     rw [hAN] at hnot
     cases hq : (AN != 0)
     ·rw [← hnot, hq, if_neg (by decide)] at hE
      clear hnot
      subst hE
      go_wp2_with fail
      go_ret
      exact ⟨rfl, hfin⟩
     ·rw [← hnot, hq, if_pos rfl] at hE
      clear hnot
      subst hE
      go_wp2_with fail
      go_ret
      exact ⟨rfl, hfin⟩
theorem told_zero {L : List Nod} {p : ByteArray} {e : Int} (h : e ≠ 0) : zeroP.n = toldN L p e := by
 unfold toldN
 rw [if_neg h]
 rfl
theorem ms_startM (w : World) (u : ByteArray) (t : Lab) : MS w ((w.alloc (.cells (sbL u t).toArray 52)).alloc (.cells zN 36)) u t := by
 have hb := alloc_below w (.cells (sbL u t).toArray 52)
 have hb2 := alloc_below (w.alloc (.cells (sbL u t).toArray 52)) (.cells zN 36)
 have h2 := blkl_alloc (w.alloc (.cells (sbL u t).toArray 52)) zN 36
 rw [World.size_alloc] at h2
 exact ⟨Below.then hb hb2, stab_blk _ _ _ _ (blkl_alloc w (sbL u t).toArray 52) hb2, h2⟩
set_option maxRecDepth 20000 in
set_option maxHeartbeats 8000000 in
theorem msee_any (a : Option Addr) (cap : Nat) (l : List PN) (u : ByteArray) (t : Lab) (p : ByteArray) (hF : FineL l) (hGt : GL t) (hp : p.size ≤ 1000) (w : World) (h : RowN w a l) (hV : MaxV w) :
    Calls Tryz.prog 39 #[.slice a l.length cap, .agg (sbL u t).toArray, .string p] w fun e w' => ∃ f : PN, e = .returned (.tuple #[.agg f.cs.toArray, .int .i64 (seeE (namesP l) t p)]) ∧ f.n = toldN (namesP l) p (seeE (namesP l) t p) ∧ f.At w' ∧ Below w.heap.size w w' ∧ f.Own w.heap.size w' := by
 have hund := Tryz.underlying36
 have hundM := Tryz.underlying52
 have hsz : (Tryz.prog.info? 36).map (·.size) = some zeroP.cs.length := by kernel_rfl
 have hszN : (Tryz.prog.info? 36).map (·.size) = some 16 := by kernel_rfl
 have hsm : (Tryz.prog.info? 52).map (·.size) = some 5 := by kernel_rfl
 have kf := fun q W (r : RowN W a l) => tfindO_any a cap l q (by have := hF.len; omega) (ordP.1 hF.ord) hF.few W r
 have ke := fun q W (r : RowN W a l) => menter_any a cap l u t q hF hGt W r
 have kc := fun W (q : MaxV W) => pcheck_any p (by omega) W q
 obtain ⟨E, hE⟩ : ∃ E, seeE (namesP l) t p = E := ⟨_, rfl⟩
 rw [hE]
 unfold seeE at hE
 obtain ⟨n, hn⟩ : ∃ n, l.length = n := ⟨_, rfl⟩
 rw [hn] at kf ke ⊢
 replace hn : Aside (l.length = n) := hn
 have h0 := ms_startM w u t
 generalize hce : checkOf p = ce at *
 have hbad := True.intro
 go_enter Tryz.func39, Tryz.ntmps39
 go_wp2_with fail
 generalize (w.alloc (.cells (sbL u t).toArray 52)).alloc (.cells zN 36) = W0 at *
 refine (kc W0 (hV.below h0.bl)).mono ?_
 rintro e W1 ⟨rfl, hB1⟩
 have h1 := h0.then hB1
 clear kc h0 hB1
 by_cases hc0 : ce = 0
 rotate_left
 ·rw [if_pos hc0] at hE
  subst hE
  clear kf ke
  obtain ⟨W9, hW9, hth9, hk9, hb9⟩ := put_res h1.rs zeroP h1.bl (by omega)
  have hzz : zeroP.n = toldN (namesP l) p ce := told_zero hc0
  have hza := zero_atM W9
  clear hbad
  as_aux_lemma =>
   go_wp2_with (first | (refine wpList_store_part rfl _ _ rfl (w.heap.size + 1) 0 rfl zeroP.cs rfl hth9 hsz (pn_one zeroP) hW9 ?_) | fail)
   refine bodyPost_ret (v := .tuple #[.agg zeroP.cs.toArray, .int .i64 ce]) (results_row2 rfl _ _ (w.heap.size + 1) rfl (.int .i64 ce) rfl zeroP.cs hk9.range hund rfl hsz) rfl ?_
   exact ⟨zeroP, rfl, hzz, hza, hb9, .inl rfl, .inl rfl⟩
 subst hc0
 rw [if_neg (by simp)] at hE
 obtain ⟨ns, hns, rfl, h78⟩ := check_path hce
 have hpp : partsOf (pathB ns) = ns := parts_path hns.flat
 have hpq : ppartsOf (pathB ns) = ns := by rw [pparts_eq (check_first hns), hpp]
 rw [hpp] at hE
 have kp := parts_any (pathB ns) (by omega) W1 (hV.below h1.bl)
 rw [hpq] at kp
 obtain ⟨ln, hln⟩ : ∃ ln, ns.length = ln := ⟨_, rfl⟩
 go_wp2_with fail
 refine kp.mono ?_
 rintro e W2 ⟨pv, rfl, ho2, hB2⟩
 have h2 := h1.then hB2
 obtain ⟨pa, pcap, rfl⟩ := ho2.slice hln
 obtain ⟨B2, hB2e⟩ : ∃ B2, W1.heap.size = B2 := ⟨_, rfl⟩
 rw [hB2e] at ho2
 clear kp h1 hB2 hB2e hpp hpq
 replace hce : Aside _ := hce
 have hln6 : ln ≤ 6 := by rw [← hln]; exact hns.1
 replace hE : Aside _ := hE
 replace hln : Aside (ns.length = ln) := hln
 go_wp2_with fail
 go_loopw [9, 24] (fun t9 t24 wr => ∃ i : Nat, i ≤ ln ∧ t24 = .int .i64 (i : Int) ∧ t9 = .string (pathB (ns.take i)) ∧ Aside (wayE (namesP l) t [] ns = wayE (namesP l) t (ns.take i) (ns.drop i)) ∧ MS w wr u t ∧ OwnS wr B2 (.slice pa ln pcap) ns) (fun _ t24 _ => ln - (Go.RowKit.intOf t24).toNat)
 case atStart => exact ⟨0, by omega, rfl, by rw [List.take_zero, pathB_nil]; rfl, rfl, h2, ho2⟩
 case round =>
  clear h2 ho2
  obtain ⟨i, hi, rfl, rfl, hway, hM, ho⟩ := hrel
  by_cases hlt : i < ln
  ·obtain ⟨nm, hnm⟩ : ∃ nm, ns[i]? = some nm := ⟨_, List.getElem?_eq_getElem (by rw [hln.out]; exact hlt)⟩
   have hnn := hns.flat nm (List.mem_of_getElem? hnm)
   have hnsz := (name_size (hns.2 nm (List.mem_of_getElem? hnm))).2
   have hw2 := hway.out
   rw [way_succ hnm] at hw2
   have hjoin : joinOf (pathB (ns.take i)) nm = pathB (ns.take (i + 1)) := by
    rw [join_path nm (fun q hq => (hns.flat q (List.mem_of_mem_take hq)).2), List.take_add_one, hnm]
    rfl
   have hats : (pathB (ns.take i)).size ≤ 1000000 := by
    have : Names (ns.take i) := ⟨by rw [List.length_take]; have := hns.1; omega, fun q hq => hns.2 q (List.mem_of_mem_take hq)⟩
    have := names_size this
    omega
   have kj := join_any (pathB (ns.take i)) nm hats (by omega)
   rw [hjoin] at kj
   have kb := ke (pathB (ns.take i)) wr (h.below hM.bl)
   obtain ⟨se, hse⟩ : ∃ se, stepE t (findN (namesP l) (pathB (ns.take i))) = se := ⟨_, rfl⟩
   rw [hse] at kb hw2
   obtain ⟨at_, hat⟩ : ∃ at_, pathB (ns.take i) = at_ := ⟨_, rfl⟩
   rw [hat] at kb kj ⊢
   have i1 : (i : Int) < (ln : Int) := by omega
   obtain ⟨g5, c5, hv5, hc5, _, _⟩ := ho.at hln.out hnm
   injection hv5 with q1 q2 q3
   subst q1 q3
   have hrs := hM.bx.range
   clear hway hat hjoin hats hse
   replace hw2 : Aside _ := hw2
   go_wp2_with (first | (refine wpList_load_row rfl _ rfl w.heap.size rfl (sbL u t) hrs hundM rfl hsm ?_) | fail)
   refine kb.mono ?_
   rintro e W3 ⟨rfl, hB3⟩
   have hM3 := hM.then hB3
   have ho3 := ho.below hB3
   clear kb hM hB3 ho hrs hc5
   by_cases hs0 : se = 0
   rotate_left
   ·obtain rfl : E = se := by
      have q := hw2.out
      rw [if_pos hs0] at q
      rw [← hE.out, q, if_pos hs0]
    clear kf ke kj hE hw2
    obtain ⟨W9, hW9, hth9, hk9, hb9⟩ := put_res hM3.rs zeroP hM3.bl (by omega)
    have hzz : zeroP.n = toldN (namesP l) (pathB ns) E := told_zero hs0
    have hza := zero_atM W9
    clear hbad
    as_aux_lemma =>
     go_wp2_with (first | (refine wpList_store_part rfl _ _ rfl (w.heap.size + 1) 0 rfl zeroP.cs rfl hth9 hsz (pn_one zeroP) hW9 ?_) | fail)
     refine bodyPost_ret (v := .tuple #[.agg zeroP.cs.toArray, .int .i64 E]) (results_row2 rfl _ _ (w.heap.size + 1) rfl (.int .i64 E) rfl zeroP.cs hk9.range hund rfl hsz) rfl ?_
     exact ⟨zeroP, rfl, hzz, hza, hb9, .inl rfl, .inl rfl⟩
   ·subst hs0
    have hw3 : Aside (wayE (namesP l) t [] ns = wayE (namesP l) t (ns.take (i + 1)) (ns.drop (i + 1))) := by
     have q := hw2.out
     rw [if_neg (by simp)] at q
     exact q
    clear hw2
    go_wp2_with fail
    refine (kj W3).mono ?_
    rintro e w6 ⟨rfl, hw6⟩
    replace hw6 := hw6.symm
    subst hw6
    go_wp2_with fail
    exact ⟨⟨i + 1, by omega, by simp, rfl, hw3, hM3, ho3⟩, by simp [Go.RowKit.intOf]; omega⟩
  ·obtain rfl : i = ln := by omega
   have htk : ns.take i = ns := List.take_of_length_le (by rw [hln.out]; exact Nat.le_refl _)
   rw [htk]
   have hw0 : wayE (namesP l) t [] ns = 0 := by
    have q := hway.out
    rw [List.drop_eq_nil_of_le (by rw [hln.out]; exact Nat.le_refl _)] at q
    rw [q]
    rfl
   have hE2 := hE.out
   rw [hw0, if_neg (by simp), find_names] at hE2
   have kb := kf (pathB ns) wr (h.below hM.bl)
   obtain ⟨fr, hfr⟩ : ∃ fr, findP l (pathB ns) = fr := ⟨_, rfl⟩
   rw [hfr] at kb hE2
   have hTT : Aside (∀ d, fr = some d → toldN (namesP l) (pathB ns) 0 = d.n) := fun d q => by
    unfold toldN
    rw [if_pos rfl, find_names, hfr, q]
    rfl
   obtain ⟨pp, hppe⟩ : ∃ pp, pathB ns = pp := ⟨_, rfl⟩
   rw [hppe] at kb ⊢
   have i1 : ¬ (i : Int) < (i : Int) := by omega
   clear hway hw0 hfr ke kf htk hE hce hns hln
   replace hppe : Aside (pathB ns = pp) := hppe
   go_wp2_with fail
   refine kb.mono ?_
   rintro e W3 ⟨y, rfl, hy, hya, hB3, hyo⟩
   have hM3 := hM.then hB3
   have hlt2 : w.heap.size + 1 < wr.heap.size := hM.rs.2
   obtain ⟨W4, hW4, hth4, hbn, hB4⟩ := put_new W3 zN 36 y.cs (by rw [pn_len]; rfl) (by rw [pn_len]; omega)
   have hM4 := hM3.then hB4
   have hszy : (Tryz.prog.info? 36).map (·.size) = some y.cs.length := by rw [pn_len]; exact hszN
   replace hya := hya.below hB4
   clear kb hM hM3 hB3 ho
   cases fr with
   | none =>
    obtain rfl : E = 2 := hE2.symm
    clear hE2 hTT hy hya
    obtain ⟨W9, hW9, hth9, hk9, hb9⟩ := put_res hM4.rs zeroP hM4.bl (by omega)
    have hzz : zeroP.n = toldN (namesP l) (pathB ns) 2 := told_zero (by decide)
    have hza := zero_atM W9
    clear hbad
    as_aux_lemma =>
     go_wp2_with (first | (refine wpList_store_row rfl _ _ rfl W3.heap.size rfl y.cs rfl hth4 hszy (pn_one y) hW4 ?_) | (refine wpList_store_part rfl _ _ rfl (w.heap.size + 1) 0 rfl zeroP.cs rfl hth9 hsz (pn_one zeroP) hW9 ?_) | fail)
     refine bodyPost_ret (v := .tuple #[.agg zeroP.cs.toArray, .int .i64 2]) (results_row2 rfl _ _ (w.heap.size + 1) rfl (.int .i64 2) rfl zeroP.cs hk9.range hund rfl hsz) rfl ?_
     exact ⟨zeroP, rfl, hzz, hza, hb9, .inl rfl, .inl rfl⟩
   | some d =>
    obtain rfl : E = 0 := hE2.symm
    have hyt : y.n = toldN (namesP l) (pathB ns) 0 := by rw [hTT.out d rfl]; exact hy
    obtain ⟨W9, hW9, hth9, hk9, hb9⟩ := put_res hM4.rs y hM4.bl (by omega)
    have hrn := hbn.range
    replace hya : y.At W9 := by rw [← hW9]; exact hya.cells hyo hlt2 0 y.cs
    have hyw : y.Own w.heap.size W9 := hyo.lower (by omega) (by rw [← hW9]; exact Nat.le_trans hB4.size (cells_size _ _ _ _))
    clear hbad hE2 hTT hy
    as_aux_lemma =>
     go_wp2_with (first | (refine wpList_store_row rfl _ _ rfl W3.heap.size rfl y.cs rfl hth4 hszy (pn_one y) hW4 ?_) | (refine wpList_load_row rfl _ rfl W3.heap.size rfl y.cs hrn hund rfl hszy ?_) | (refine wpList_store_part rfl _ _ rfl (w.heap.size + 1) 0 rfl y.cs rfl hth9 hszy (pn_one y) hW9 ?_) | fail)
     refine bodyPost_ret (v := .tuple #[.agg y.cs.toArray, .int .i64 0]) (results_row2 rfl _ _ (w.heap.size + 1) rfl (.int .i64 0) rfl y.cs hk9.range hund rfl hszy) rfl ?_
     exact ⟨y, rfl, hyt, hya, hb9, hyw⟩
end Go.Proofs.YtidihdiffiffmaaGreatDoor
