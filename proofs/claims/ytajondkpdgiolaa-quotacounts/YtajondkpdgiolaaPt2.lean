/-
  PART 2 of what the claims of this seat lean on: TreeFirstRef Mids Two QuotaRef QuotaBase Srt Srt2 Srt3 Srt4 Srt5 Srt6 Srt7 Srt8 SortShelf Opens.
-/
import Derived.Deep.RegionHeld
import Derived.Deep.CutBlock
import Derived.Sort.AssemblyPlain
import Derived.Sort.WalkA
import Derived.Shelf.Abstract
import Derived.Shelf.GgSortFunc.Lays
import Derived.Test.YtajondkpdgiolaaRows
import Derived.ProofKit
import Derived.OpenShut
import Derived.ChangeSame
import Derived.ChangeSlices
import Derived.SizedLaws
import Derived.Deep.Slices
import Derived.Deep.Strs
import Derived.Test.YtajondkpdgiolaaPt1
/-! THE FIRST NODES: the document's own First (donjonref11). Written by mk_tfirst.py. -/
namespace Go.Proofs.Ytajondkpdgiolaa
open Go.RowKit
set_option maxRecDepth 8000
set_option linter.unusedSimpArgs false
set_option linter.unusedVariables false

def lrow (l : Lab) : List Value := [.int .i64 l.s, .int .i64 l.c, .int .i64 l.i, .int .i64 l.k]
theorem lab_ok : ElemOk 25 22 4 lrow :=
  ⟨Try.underlying22, by
    obtain ⟨i, h1, h2, h3, h4⟩ := info_of (e := 25) (z := .agg #[.int .i64 0, .int .i64 0, .int .i64 0, .int .i64 0]) (sz := 4) (b := 32) (by kernel_rfl)
    exact ⟨i, _, _, h1, h2, h3, h4, rfl, by omega⟩, by omega, fun _ => rfl, fun x u hu => by simp [lrow] at hu; rcases hu with rfl | rfl | rfl | rfl <;> rfl⟩
theorem rlbottom_any (w : World) :
    Calls Try.prog 36 #[] w fun e w' => e = .returned bottomL.v ∧ Below w.heap.size w w' := by
  go_enter Try.func36, Try.ntmps36
  go_wp2
  refine bodyPost_ret (v := bottomL.v) (by simp [results, Try.results36, go_sem, bottomL]) rfl ⟨rfl, (Below.refl _ _).alloc (Nat.le_refl _) _⟩
section
variable {ops : Array Oper} {o : Oper} {a : Act} {w : World} {Q : Exit → Act → World → Prop} {S : World → Prop}
/-- A load of one cell, in a region that draws. -/
theorem yields_cell {T : TypeId} (hw : Region.wanted o (yielded ops a.tmps) = true) (x : Operand) (ho : o.op = .load T x) (y : Addr) (hx : a.eval x = .pointer (some y)) (v : Value) (hS : ∀ w, S w → w.cell? y = some v) (hl : ∀ w y v, w.cell? y = some v → (Instr.loadAt T (.pointer (some y))).run Try.prog w = .ok v w) : YieldsIf Try.prog ops S o v a :=
  .inl ⟨hw, fun w hw' => by
    unfold execOp
    simp only [ho, hx, Sem.run_bind, hl w y v (hS w hw'), Result.andThen_ok]
    rfl⟩
theorem step_conv {t u : TypeId} {K : Act → World → Prop} {E : Prop} {v r : Value} (hg : o.guard = none) (x : Operand) (ho : o.op = .convert t u x) (hx : a.eval x = v) (hr : (convert t u v).run Try.prog w = .ok r w) (hK : K (a.put o.dst r) w) :
    if Region.wanted o (yielded ops a.tmps) = true then Oper.wp Try.prog o a w K Q else E := by
  have hw : Region.wanted o (yielded ops a.tmps) = true := by simp [Region.wanted, hg]
  rw [if_pos hw]
  unfold Oper.wp execOp
  simp only [ho, hx, Sem.run_bind, hr, Result.andThen_ok]
  exact hK
end
theorem slab_load (w : World) (y : Addr) (v : Value) (h : w.cell? y = some v) : (Instr.loadAt 22 (.pointer (some y))).run Try.prog w = .ok v w := by
  simp [go_sem, h]
def firstP (ts : List Lab) (i : Nat) (ag : Option Addr) : List PN := (firstTo ts i).map fun n => ⟨n, ag, 1, none, 0⟩
theorem firstP_len (ts : List Lab) (i : Nat) (ag : Option Addr) : (firstP ts i ag).length = (distTo ts i).length + 1 := by simp [firstP, firstTo]
theorem firstP_names (ts : List Lab) (i : Nat) (ag : Option Addr) : namesP (firstP ts i ag) = firstTo ts i := by
  unfold namesP firstP
  rw [List.map_map]
  exact List.map_id' _
theorem firstP_succ (ts : List Lab) (i : Nat) (ag : Option Addr) : firstP ts (i + 1) ag = if (ts.take i).any (fun t => labEq t (ts.getD i bottomL)) = true then firstP ts i ag else firstP ts i ag ++ [⟨dirN (distTo ts i).length (ts.getD i bottomL), ag, 1, none, 0⟩] := by
  unfold firstP
  rw [first_succ]
  split
  · rfl
  · simp
theorem dist_succ (ts : List Lab) (i : Nat) : (distTo ts (i + 1)).length = if (ts.take i).any (fun t => labEq t (ts.getD i bottomL)) = true then (distTo ts i).length else (distTo ts i).length + 1 := by
  rw [distTo]
  split <;> simp
theorem l_path (q : Nat) : (⟨#[47, 108]⟩ : ByteArray) ++ chr (48 + q) = ⟨#[47, 108, UInt8.ofNat (48 + q)]⟩ := by
  apply bytes_inj
  rw [bytes_append]
  rfl
theorem dir_cs (w : World) (q : Nat) (tt : Lab) : (PN.cs ⟨dirN q tt, some ⟨w.heap.size + 1, 0, none⟩, 1, none, 0⟩) = [.string (⟨#[47, 108]⟩ ++ chr (48 + q)), .bool true, .int .i64 tt.s, .int .i64 tt.c, .int .i64 tt.i, .int .i64 tt.k, .slice (some ⟨w.heap.size + 1, 0, none⟩) 1 1, .int .i64 0, .int .i64 0, .int .i64 0, .int .i64 0, .slice none 0 0, .int .i64 bottomL.s, .int .i64 bottomL.c, .int .i64 bottomL.i, .int .i64 bottomL.k] := by
  rw [l_path]
  rfl
theorem any_take {ts : List Lab} {j : Nat} {t : Lab} (h : ts[j]? = some t) (f : Lab → Bool) : (ts.take (j + 1)).any f = ((ts.take j).any f || f t) := by
  rw [List.take_add_one, h]
  simp
theorem own_one (x : PN) (W : World) {base : Nat} (hb : base ≤ W.heap.size) : OwnN (W.alloc (.cells x.cs.toArray 36)) base (.slice (some ⟨W.heap.size, 0, none⟩) 1 1) [x] := by
  refine ⟨by simp [pn_len], .inr ⟨W.heap.size, 1, x.cs.toArray, rfl, hb, heap_alloc_new W _, Nat.le_refl _, by simp only [maxLen]; omega, by simp [pn_len], ?_⟩⟩
  simp
  exact List.take_of_length_le (by rw [pn_len]; omega)
/-- Where First stands: the config's box, the list for all. -/
structure FsZ (w W : World) (ta : Option Addr) (n ct : Nat) : Prop where
  box : W.cell? ⟨w.heap.size, 0, none⟩ = some (.slice ta n ct)
  all : GrsAt W (some ⟨w.heap.size + 1, 0, none⟩) allG
  bl : Below w.heap.size w W
  sz : w.heap.size + 2 ≤ W.heap.size
section
variable {w W W' : World} {ta : Option Addr} {n ct : Nat}
theorem FsZ.grown (h : FsZ w W ta n ct) (b : Below (w.heap.size + 2) W W') : FsZ w W' ta n ct := by
  refine ⟨(b.cell (p := ⟨w.heap.size, 0, none⟩) (by show w.heap.size < w.heap.size + 2; omega)).trans h.box, fun j q hq => ?_, h.bl.trans (b.mono (by omega)), Nat.le_trans h.sz b.size⟩
  obtain ⟨y, hy, h1, h2⟩ := h.all j q hq
  obtain rfl := Option.some.inj hy
  have hb : ((⟨w.heap.size + 1, 0, none⟩ : Addr).add (j * 2)).block < w.heap.size + 2 := by rw [add_at]; show w.heap.size + 1 < _; omega
  exact ⟨_, rfl, (b.cell hb).trans h1, (b.cell (p := ⟨_, _, none⟩) hb).trans h2⟩
theorem FsZ.then (h : FsZ w W ta n ct) (b : Below W.heap.size W W') : FsZ w W' ta n ct := h.grown (b.mono h.sz)
theorem FsZ.lab {y : Addr} {ts : List Lab} (h : FsZ w W (some y) n ct) (hl : RowAt 4 lrow w (some y) ts) {j : Nat} {t : Lab} (ht : ts[j]? = some t) : CellsAt W (y.add (j * 4)) [.int .i64 t.s, .int .i64 t.c, .int .i64 t.i, .int .i64 t.k] := (hl.below lab_ok.len h.bl).at lab_ok.len ht
end
set_option maxRecDepth 20000 in
set_option maxHeartbeats 8000000 in
theorem rfirstT_any (ta : Option Addr) (ct : Nat) (ts : List Lab) (ua ra : Option Addr) (nu cu nr cr : Nat) (hn9 : ts.length ≤ 9) (w : World) (hl : RowAt 4 lrow w ta ts) :
    Calls Try.prog 22 #[.agg #[.slice ta ts.length ct, .slice ua nu cu, .slice ra nr cr]] w fun e w' => ∃ v, e = .returned v ∧ OwnN w' w.heap.size v (firstP ts ts.length (some ⟨w.heap.size + 1, 0, none⟩)) ∧ GrsAt w' (some ⟨w.heap.size + 1, 0, none⟩) allG ∧ Below w.heap.size w w' := by
  have hsl : (Try.prog.info? 25).map (·.size) = some 4 := by kernel_rfl
  have heq := run_eql_lab
  obtain ⟨n, hn⟩ : ∃ n, ts.length = n := ⟨_, rfl⟩
  rw [hn] at hn9 ⊢
  replace hn : Aside (ts.length = n) := hn
  have hdl := dist_len ts
  have h0 : FsZ w ((w.alloc (.cells #[.slice ta n ct, .slice ua nu cu, .slice ra nr cr] 54)).alloc (.cells #[.string ⟨#[42]⟩, .int .i64 7] 77)) ta n ct := by
    have b1 := alloc_below w (.cells #[.slice ta n ct, .slice ua nu cu, .slice ra nr cr] 54)
    have m1 := blk_alloc w #[.slice ta n ct, .slice ua nu cu, .slice ra nr cr] 54
    have s1 := World.size_alloc w (.cells #[.slice ta n ct, .slice ua nu cu, .slice ra nr cr] 54)
    generalize w.alloc (.cells #[.slice ta n ct, .slice ua nu cu, .slice ra nr cr] 54) = W1 at *
    have b2 := alloc_below W1 (.cells #[.string ⟨#[42]⟩, .int .i64 7] 77)
    have m2 := blk_alloc W1 #[.string ⟨#[42]⟩, .int .i64 7] 77
    have s2 := World.size_alloc W1 (.cells #[.string ⟨#[42]⟩, .int .i64 7] 77)
    rw [s1] at m2
    refine ⟨((m1.same (b2.block _ (by omega))) 0 _ rfl).1, fun j q hq => ?_, Below.then b1 b2, by omega⟩
    have hj : j = 0 := by have := (List.getElem?_eq_some_iff.1 hq).1; simp [allG] at this; omega
    subst hj
    obtain rfl : (⟨starS, 7⟩ : Gr) = q := by simpa [allG] using hq
    exact ⟨_, rfl, (m2 0 _ rfl).1, (m2 1 _ rfl).1⟩
  go_enter Try.func22, Try.ntmps22
  go_wp2_with fail
  generalize (w.alloc (.cells #[.slice ta n ct, .slice ua nu cu, .slice ra nr cr] 54)).alloc (.cells #[.string ⟨#[42]⟩, .int .i64 7] 77) = W0 at *
  refine (rlbottom_any W0).mono ?_
  rintro e W1 ⟨rfl, hB1⟩
  have h1 := h0.then hB1
  go_wp2_with fail
  refine (rlbottom_any W1).mono ?_
  rintro e W2 ⟨rfl, hB2⟩
  have h2 := h1.then hB2
  have hrt : OwnN (W2.alloc (.cells [.string ⟨#[47]⟩, .bool true, .int .i64 bottomL.s, .int .i64 bottomL.c, .int .i64 bottomL.i, .int .i64 bottomL.k, .slice (some ⟨w.heap.size + 1, 0, none⟩) 1 1, .int .i64 0, .int .i64 0, .int .i64 0, .int .i64 0, .slice none 0 0, .int .i64 bottomL.s, .int .i64 bottomL.c, .int .i64 bottomL.i, .int .i64 bottomL.k].toArray 36)) (w.heap.size + 2) (.slice (some ⟨W2.heap.size, 0, none⟩) 1 1) (firstP ts 0 (some ⟨w.heap.size + 1, 0, none⟩)) := own_one (⟨rootN, some ⟨w.heap.size + 1, 0, none⟩, 1, none, 0⟩ : PN) W2 h2.sz
  have h3 := h2.then (alloc_below W2 (.cells [.string ⟨#[47]⟩, .bool true, .int .i64 bottomL.s, .int .i64 bottomL.c, .int .i64 bottomL.i, .int .i64 bottomL.k, .slice (some ⟨w.heap.size + 1, 0, none⟩) 1 1, .int .i64 0, .int .i64 0, .int .i64 0, .int .i64 0, .slice none 0 0, .int .i64 bottomL.s, .int .i64 bottomL.c, .int .i64 bottomL.i, .int .i64 bottomL.k].toArray 36))
  clear h0 h1 h2 hB1 hB2
  go_wp2_with (first | (refine wpList_build1 pn_ok (by decide) rfl _ rfl [.string ⟨#[47]⟩, .bool true, .int .i64 bottomL.s, .int .i64 bottomL.c, .int .i64 bottomL.i, .int .i64 bottomL.k, .slice (some ⟨w.heap.size + 1, 0, none⟩) 1 1, .int .i64 0, .int .i64 0, .int .i64 0, .int .i64 0, .slice none 0 0, .int .i64 bottomL.s, .int .i64 bottomL.c, .int .i64 bottomL.i, .int .i64 bottomL.k] rfl rfl ?_) | fail)
  generalize W2.alloc (.cells [.string ⟨#[47]⟩, .bool true, .int .i64 bottomL.s, .int .i64 bottomL.c, .int .i64 bottomL.i, .int .i64 bottomL.k, .slice (some ⟨w.heap.size + 1, 0, none⟩) 1 1, .int .i64 0, .int .i64 0, .int .i64 0, .int .i64 0, .slice none 0 0, .int .i64 bottomL.s, .int .i64 bottomL.c, .int .i64 bottomL.i, .int .i64 bottomL.k].toArray 36) = W3 at *
  generalize W2.heap.size = rb at *
  go_loopw [4, 5, 6] (fun t4 t5 t6 wr => ∃ i : Nat, i ≤ n ∧ t6 = .int .i64 (i : Int) ∧ ∃ q : Nat, t5 = .int .i64 (q : Int) ∧ Aside (q = (distTo ts i).length) ∧ FsZ w wr ta n ct ∧ OwnN wr (w.heap.size + 2) t4 (firstP ts i (some ⟨w.heap.size + 1, 0, none⟩))) (fun _ _ t6 _ => n - (Go.RowKit.intOf t6).toNat)
  case atStart => exact ⟨0, by omega, rfl, 0, rfl, rfl, h3, hrt⟩
  case round =>
    clear h3 hrt
    obtain ⟨i, hi, rfl, q, rfl, hq, hS, ho⟩ := hrel
    have hbx := hS.box
    have hq9 : q ≤ 9 := by rw [hq.out]; have := hdl i; omega
    by_cases hlt : i < n
    · obtain ⟨tt, hti⟩ : ∃ tt, ts[i]? = some tt := ⟨_, List.getElem?_eq_getElem (by rw [hn.out]; exact hlt)⟩
      have hgd : ts.getD i bottomL = tt := by rw [List.getD_eq_getElem?_getD, hti]; rfl
      obtain ⟨y, rfl, -⟩ := hl i tt hti
      have hfs := firstP_succ ts i (some ⟨w.heap.size + 1, 0, none⟩)
      have hds := dist_succ ts i
      rw [hgd] at hfs hds
      replace hfs : Aside _ := hfs
      replace hds : Aside _ := hds
      clear hgd
      go_wp2_with fail
      clear hbx
      go_loopw [7, 8] (fun t7 t8 wq => ∃ j : Nat, j ≤ i ∧ t8 = .int .i64 (j : Int) ∧ t7 = .bool ((ts.take j).any (fun t => labEq t tt)) ∧ FsZ w wq (some y) n ct ∧ Below wr.heap.size wr wq) (fun _ t8 _ => i - (Go.RowKit.intOf t8).toNat)
      case atStart => exact ⟨0, by omega, rfl, rfl, hS, Below.refl _ _⟩
      case round =>
        obtain ⟨j, hj, rfl, rfl, hS2, hB⟩ := hrel
        have ho2 := ho.below hB
        by_cases hlt2 : j < i
        · obtain ⟨tj, htj⟩ : ∃ tj, ts[j]? = some tj := ⟨_, List.getElem?_eq_getElem (by rw [hn.out]; omega)⟩
          have hat := any_take htj (fun t => labEq t tt)
          have hS0 : FsZ w wr.drew (some y) n ct := hS2.then (Below.refl _ _).drew
          have hBd := hB.drew
          have i1 : (j : Int) < (i : Int) := by omega
          have i2 : (j : Int) < (n : Int) := by omega
          have i3 : (i : Int) < (n : Int) := by omega
          cases hb : (ts.take j).any (fun t => labEq t tt)
          · rw [hb, Bool.false_or] at hat
            clear hS ho ho2
            go_wp2_with fail
            refine wp_region_held_drew (S := (fun W => FsZ w W (some y) n ct)) (by kernel_rfl) (by exact hS0) ?_
            intro hHeld
            (first | (refine wpAnyH_take (i := 0) (v := ?_) (by simp only [gA, gB, gC]; rfl) (by kernel_rfl) (by kernel_rfl) (by kernel_rfl) (by exact fun _ _ _ h => h) (Or.inl ⟨by rfl, ?_⟩) (by assumption) ?_; rotate_left; (focus (intro w hSw; (try dsimp only at hSw); go_simp; try with_reducible rfl))) | (refine wpAnyH_take (i := 0) (v := undef) (by simp only [gA, gB, gC]; rfl) (by kernel_rfl) (by kernel_rfl) (by kernel_rfl) (by exact fun _ _ _ h => h) (Or.inr ⟨by rfl, rfl⟩) (by assumption) ?_) | fail); simp only [Act.put, sA, sB, sC, Bool.not_true, Bool.not_false]
            (first | (refine wpAnyH_take (i := 1) (v := ?_) (by simp only [gA, gB, gC]; rfl) (by kernel_rfl) (by kernel_rfl) (by kernel_rfl) (by exact fun _ _ _ h => h) (Or.inl ⟨by rfl, ?_⟩) (by assumption) ?_; rotate_left; (focus (intro w hSw; (try dsimp only at hSw); go_simp; try with_reducible rfl))) | (refine wpAnyH_take (i := 1) (v := undef) (by simp only [gA, gB, gC]; rfl) (by kernel_rfl) (by kernel_rfl) (by kernel_rfl) (by exact fun _ _ _ h => h) (Or.inr ⟨by rfl, rfl⟩) (by assumption) ?_) | fail); simp only [Act.put, sA, sB, sC, Bool.not_true, Bool.not_false]
            (first | (refine wpAnyH_take (i := 2) (v := ?_) (by simp only [gA, gB, gC]; rfl) (by kernel_rfl) (by kernel_rfl) (by kernel_rfl) (by exact fun _ _ _ h => h) (Or.inl ⟨by rfl, ?_⟩) (by assumption) ?_; rotate_left; (focus (intro w hSw; (try dsimp only at hSw); go_simp; try with_reducible rfl))) | (refine wpAnyH_take (i := 2) (v := undef) (by simp only [gA, gB, gC]; rfl) (by kernel_rfl) (by kernel_rfl) (by kernel_rfl) (by exact fun _ _ _ h => h) (Or.inr ⟨by rfl, rfl⟩) (by assumption) ?_) | fail); simp only [Act.put, sA, sB, sC, Bool.not_true, Bool.not_false]
            (first | (refine wpAnyH_take (i := 3) (v := _) (by simp only [gA, gB, gC]; rfl) (by kernel_rfl) (by kernel_rfl) (by kernel_rfl) (by exact fun _ _ _ h => h) (yields_cell (by rfl) _ rfl ⟨w.heap.size, 0, none⟩ rfl (.slice (some y) n ct) (fun _ q => q.box) slab_load) (by assumption) ?_) | (refine wpAnyH_take (i := 3) (v := undef) (by simp only [gA, gB, gC]; rfl) (by kernel_rfl) (by kernel_rfl) (by kernel_rfl) (by exact fun _ _ _ h => h) (Or.inr ⟨by rfl, rfl⟩) (by assumption) ?_) | fail); simp only [Act.put, sA, sB, sC, Bool.not_true, Bool.not_false]
            (first | (refine wpAnyH_take (i := 4) (v := ?_) (by simp only [gA, gB, gC]; rfl) (by kernel_rfl) (by kernel_rfl) (by kernel_rfl) (by exact fun _ _ _ h => h) (Or.inl ⟨by rfl, ?_⟩) (by assumption) ?_; rotate_left; (focus (intro w hSw; (try dsimp only at hSw); go_simp; try with_reducible rfl))) | (refine wpAnyH_take (i := 4) (v := undef) (by simp only [gA, gB, gC]; rfl) (by kernel_rfl) (by kernel_rfl) (by kernel_rfl) (by exact fun _ _ _ h => h) (Or.inr ⟨by rfl, rfl⟩) (by assumption) ?_) | fail); simp only [Act.put, sA, sB, sC, Bool.not_true, Bool.not_false]
            (first | (refine wpAnyH_take (i := 5) (v := ?_) (by simp only [gA, gB, gC]; rfl) (by kernel_rfl) (by kernel_rfl) (by kernel_rfl) (by exact fun _ _ _ h => h) (Or.inl ⟨by rfl, ?_⟩) (by assumption) ?_; rotate_left; (focus (intro w hSw; (try dsimp only at hSw); go_simp; try with_reducible rfl))) | (refine wpAnyH_take (i := 5) (v := undef) (by simp only [gA, gB, gC]; rfl) (by kernel_rfl) (by kernel_rfl) (by kernel_rfl) (by exact fun _ _ _ h => h) (Or.inr ⟨by rfl, rfl⟩) (by assumption) ?_) | fail); simp only [Act.put, sA, sB, sC, Bool.not_true, Bool.not_false]
            (first | (refine wpAnyH_take (i := 6) (v := _) (by simp only [gA, gB, gC]; rfl) (by kernel_rfl) (by kernel_rfl) (by kernel_rfl) (by exact fun _ _ _ h => h) (yields_at (by rfl) _ rfl _ rfl [.int .i64 tj.s, .int .i64 tj.c, .int .i64 tj.i, .int .i64 tj.k] (fun _ q => q.lab hl htj) Try.underlying25 rfl hsl) (by assumption) ?_) | (refine wpAnyH_take (i := 6) (v := undef) (by simp only [gA, gB, gC]; rfl) (by kernel_rfl) (by kernel_rfl) (by kernel_rfl) (by exact fun _ _ _ h => h) (Or.inr ⟨by rfl, rfl⟩) (by assumption) ?_) | fail); simp only [Act.put, sA, sB, sC, Bool.not_true, Bool.not_false]
            (first | (refine wpAnyH_take (i := 7) (v := ?_) (by simp only [gA, gB, gC]; rfl) (by kernel_rfl) (by kernel_rfl) (by kernel_rfl) (by exact fun _ _ _ h => h) (Or.inl ⟨by rfl, ?_⟩) (by assumption) ?_; rotate_left; (focus (intro w hSw; (try dsimp only at hSw); go_simp; try with_reducible rfl))) | (refine wpAnyH_take (i := 7) (v := undef) (by simp only [gA, gB, gC]; rfl) (by kernel_rfl) (by kernel_rfl) (by kernel_rfl) (by exact fun _ _ _ h => h) (Or.inr ⟨by rfl, rfl⟩) (by assumption) ?_) | fail); simp only [Act.put, sA, sB, sC, Bool.not_true, Bool.not_false]
            (first | (refine wpAnyH_take (i := 8) (v := _) (by simp only [gA, gB, gC]; rfl) (by kernel_rfl) (by kernel_rfl) (by kernel_rfl) (by exact fun _ _ _ h => h) (yields_cell (by rfl) _ rfl ⟨w.heap.size, 0, none⟩ rfl (.slice (some y) n ct) (fun _ q => q.box) slab_load) (by assumption) ?_) | (refine wpAnyH_take (i := 8) (v := undef) (by simp only [gA, gB, gC]; rfl) (by kernel_rfl) (by kernel_rfl) (by kernel_rfl) (by exact fun _ _ _ h => h) (Or.inr ⟨by rfl, rfl⟩) (by assumption) ?_) | fail); simp only [Act.put, sA, sB, sC, Bool.not_true, Bool.not_false]
            (first | (refine wpAnyH_take (i := 9) (v := ?_) (by simp only [gA, gB, gC]; rfl) (by kernel_rfl) (by kernel_rfl) (by kernel_rfl) (by exact fun _ _ _ h => h) (Or.inl ⟨by rfl, ?_⟩) (by assumption) ?_; rotate_left; (focus (intro w hSw; (try dsimp only at hSw); go_simp; try with_reducible rfl))) | (refine wpAnyH_take (i := 9) (v := undef) (by simp only [gA, gB, gC]; rfl) (by kernel_rfl) (by kernel_rfl) (by kernel_rfl) (by exact fun _ _ _ h => h) (Or.inr ⟨by rfl, rfl⟩) (by assumption) ?_) | fail); simp only [Act.put, sA, sB, sC, Bool.not_true, Bool.not_false]
            (first | (refine wpAnyH_take (i := 10) (v := ?_) (by simp only [gA, gB, gC]; rfl) (by kernel_rfl) (by kernel_rfl) (by kernel_rfl) (by exact fun _ _ _ h => h) (Or.inl ⟨by rfl, ?_⟩) (by assumption) ?_; rotate_left; (focus (intro w hSw; (try dsimp only at hSw); go_simp; try with_reducible rfl))) | (refine wpAnyH_take (i := 10) (v := undef) (by simp only [gA, gB, gC]; rfl) (by kernel_rfl) (by kernel_rfl) (by kernel_rfl) (by exact fun _ _ _ h => h) (Or.inr ⟨by rfl, rfl⟩) (by assumption) ?_) | fail); simp only [Act.put, sA, sB, sC, Bool.not_true, Bool.not_false]
            (first | (refine wpAnyH_take (i := 11) (v := _) (by simp only [gA, gB, gC]; rfl) (by kernel_rfl) (by kernel_rfl) (by kernel_rfl) (by exact fun _ _ _ h => h) (yields_at (by rfl) _ rfl _ rfl [.int .i64 tt.s, .int .i64 tt.c, .int .i64 tt.i, .int .i64 tt.k] (fun _ q => q.lab hl hti) Try.underlying25 rfl hsl) (by assumption) ?_) | (refine wpAnyH_take (i := 11) (v := undef) (by simp only [gA, gB, gC]; rfl) (by kernel_rfl) (by kernel_rfl) (by kernel_rfl) (by exact fun _ _ _ h => h) (Or.inr ⟨by rfl, rfl⟩) (by assumption) ?_) | fail); simp only [Act.put, sA, sB, sC, Bool.not_true, Bool.not_false]
            (first | (refine wpAnyH_take (i := 12) (v := ?_) (by simp only [gA, gB, gC]; rfl) (by kernel_rfl) (by kernel_rfl) (by kernel_rfl) (by exact fun _ _ _ h => h) (Or.inl ⟨by rfl, ?_⟩) (by assumption) ?_; rotate_left; (focus (intro w hSw; (try dsimp only at hSw); go_simp; try with_reducible rfl))) | (refine wpAnyH_take (i := 12) (v := undef) (by simp only [gA, gB, gC]; rfl) (by kernel_rfl) (by kernel_rfl) (by kernel_rfl) (by exact fun _ _ _ h => h) (Or.inr ⟨by rfl, rfl⟩) (by assumption) ?_) | fail); simp only [Act.put, sA, sB, sC, Bool.not_true, Bool.not_false]
            (first | (refine wpAnyH_take (i := 13) (v := ?_) (by simp only [gA, gB, gC]; rfl) (by kernel_rfl) (by kernel_rfl) (by kernel_rfl) (by exact fun _ _ _ h => h) (Or.inl ⟨by rfl, ?_⟩) (by assumption) ?_; rotate_left; (focus (intro w hSw; (try dsimp only at hSw); go_simp; try with_reducible rfl))) | (refine wpAnyH_take (i := 13) (v := undef) (by simp only [gA, gB, gC]; rfl) (by kernel_rfl) (by kernel_rfl) (by kernel_rfl) (by exact fun _ _ _ h => h) (Or.inr ⟨by rfl, rfl⟩) (by assumption) ?_) | fail); simp only [Act.put, sA, sB, sC, Bool.not_true, Bool.not_false]
            (first | (refine wpAnyH_take (i := 14) (v := ?_) (by simp only [gA, gB, gC]; rfl) (by kernel_rfl) (by kernel_rfl) (by kernel_rfl) (by exact fun _ _ _ h => h) (Or.inl ⟨by rfl, ?_⟩) (by assumption) ?_; rotate_left; (focus (intro w hSw; (try dsimp only at hSw); go_simp; try with_reducible rfl))) | (refine wpAnyH_take (i := 14) (v := undef) (by simp only [gA, gB, gC]; rfl) (by kernel_rfl) (by kernel_rfl) (by kernel_rfl) (by exact fun _ _ _ h => h) (Or.inr ⟨by rfl, rfl⟩) (by assumption) ?_) | fail); simp only [Act.put, sA, sB, sC, Bool.not_true, Bool.not_false]
            refine wpAnyH_done (by kernel_rfl) ?_ _
            go_wp2_with fail
            exact ⟨⟨j + 1, by omega, by simp, by rw [hat], hS0, hBd⟩, by simp [Go.RowKit.intOf]; omega⟩
          · rw [hb, Bool.true_or] at hat
            clear hS ho ho2
            go_wp2_with fail
            refine wp_region_held_drew (S := (fun W => FsZ w W (some y) n ct)) (by kernel_rfl) (by exact hS0) ?_
            intro hHeld
            (first | (refine wpAnyH_take (i := 0) (v := ?_) (by simp only [gA, gB, gC]; rfl) (by kernel_rfl) (by kernel_rfl) (by kernel_rfl) (by exact fun _ _ _ h => h) (Or.inl ⟨by rfl, ?_⟩) (by assumption) ?_; rotate_left; (focus (intro w hSw; (try dsimp only at hSw); go_simp; try with_reducible rfl))) | (refine wpAnyH_take (i := 0) (v := undef) (by simp only [gA, gB, gC]; rfl) (by kernel_rfl) (by kernel_rfl) (by kernel_rfl) (by exact fun _ _ _ h => h) (Or.inr ⟨by rfl, rfl⟩) (by assumption) ?_) | fail); simp only [Act.put, sA, sB, sC, Bool.not_true, Bool.not_false]
            (first | (refine wpAnyH_take (i := 1) (v := ?_) (by simp only [gA, gB, gC]; rfl) (by kernel_rfl) (by kernel_rfl) (by kernel_rfl) (by exact fun _ _ _ h => h) (Or.inl ⟨by rfl, ?_⟩) (by assumption) ?_; rotate_left; (focus (intro w hSw; (try dsimp only at hSw); go_simp; try with_reducible rfl))) | (refine wpAnyH_take (i := 1) (v := undef) (by simp only [gA, gB, gC]; rfl) (by kernel_rfl) (by kernel_rfl) (by kernel_rfl) (by exact fun _ _ _ h => h) (Or.inr ⟨by rfl, rfl⟩) (by assumption) ?_) | fail); simp only [Act.put, sA, sB, sC, Bool.not_true, Bool.not_false]
            (first | (refine wpAnyH_take (i := 2) (v := ?_) (by simp only [gA, gB, gC]; rfl) (by kernel_rfl) (by kernel_rfl) (by kernel_rfl) (by exact fun _ _ _ h => h) (Or.inl ⟨by rfl, ?_⟩) (by assumption) ?_; rotate_left; (focus (intro w hSw; (try dsimp only at hSw); go_simp; try with_reducible rfl))) | (refine wpAnyH_take (i := 2) (v := undef) (by simp only [gA, gB, gC]; rfl) (by kernel_rfl) (by kernel_rfl) (by kernel_rfl) (by exact fun _ _ _ h => h) (Or.inr ⟨by rfl, rfl⟩) (by assumption) ?_) | fail); simp only [Act.put, sA, sB, sC, Bool.not_true, Bool.not_false]
            (first | (refine wpAnyH_take (i := 3) (v := _) (by simp only [gA, gB, gC]; rfl) (by kernel_rfl) (by kernel_rfl) (by kernel_rfl) (by exact fun _ _ _ h => h) (yields_cell (by rfl) _ rfl ⟨w.heap.size, 0, none⟩ rfl (.slice (some y) n ct) (fun _ q => q.box) slab_load) (by assumption) ?_) | (refine wpAnyH_take (i := 3) (v := undef) (by simp only [gA, gB, gC]; rfl) (by kernel_rfl) (by kernel_rfl) (by kernel_rfl) (by exact fun _ _ _ h => h) (Or.inr ⟨by rfl, rfl⟩) (by assumption) ?_) | fail); simp only [Act.put, sA, sB, sC, Bool.not_true, Bool.not_false]
            (first | (refine wpAnyH_take (i := 4) (v := ?_) (by simp only [gA, gB, gC]; rfl) (by kernel_rfl) (by kernel_rfl) (by kernel_rfl) (by exact fun _ _ _ h => h) (Or.inl ⟨by rfl, ?_⟩) (by assumption) ?_; rotate_left; (focus (intro w hSw; (try dsimp only at hSw); go_simp; try with_reducible rfl))) | (refine wpAnyH_take (i := 4) (v := undef) (by simp only [gA, gB, gC]; rfl) (by kernel_rfl) (by kernel_rfl) (by kernel_rfl) (by exact fun _ _ _ h => h) (Or.inr ⟨by rfl, rfl⟩) (by assumption) ?_) | fail); simp only [Act.put, sA, sB, sC, Bool.not_true, Bool.not_false]
            (first | (refine wpAnyH_take (i := 5) (v := ?_) (by simp only [gA, gB, gC]; rfl) (by kernel_rfl) (by kernel_rfl) (by kernel_rfl) (by exact fun _ _ _ h => h) (Or.inl ⟨by rfl, ?_⟩) (by assumption) ?_; rotate_left; (focus (intro w hSw; (try dsimp only at hSw); go_simp; try with_reducible rfl))) | (refine wpAnyH_take (i := 5) (v := undef) (by simp only [gA, gB, gC]; rfl) (by kernel_rfl) (by kernel_rfl) (by kernel_rfl) (by exact fun _ _ _ h => h) (Or.inr ⟨by rfl, rfl⟩) (by assumption) ?_) | fail); simp only [Act.put, sA, sB, sC, Bool.not_true, Bool.not_false]
            (first | (refine wpAnyH_take (i := 6) (v := _) (by simp only [gA, gB, gC]; rfl) (by kernel_rfl) (by kernel_rfl) (by kernel_rfl) (by exact fun _ _ _ h => h) (yields_at (by rfl) _ rfl _ rfl [.int .i64 tj.s, .int .i64 tj.c, .int .i64 tj.i, .int .i64 tj.k] (fun _ q => q.lab hl htj) Try.underlying25 rfl hsl) (by assumption) ?_) | (refine wpAnyH_take (i := 6) (v := undef) (by simp only [gA, gB, gC]; rfl) (by kernel_rfl) (by kernel_rfl) (by kernel_rfl) (by exact fun _ _ _ h => h) (Or.inr ⟨by rfl, rfl⟩) (by assumption) ?_) | fail); simp only [Act.put, sA, sB, sC, Bool.not_true, Bool.not_false]
            (first | (refine wpAnyH_take (i := 7) (v := ?_) (by simp only [gA, gB, gC]; rfl) (by kernel_rfl) (by kernel_rfl) (by kernel_rfl) (by exact fun _ _ _ h => h) (Or.inl ⟨by rfl, ?_⟩) (by assumption) ?_; rotate_left; (focus (intro w hSw; (try dsimp only at hSw); go_simp; try with_reducible rfl))) | (refine wpAnyH_take (i := 7) (v := undef) (by simp only [gA, gB, gC]; rfl) (by kernel_rfl) (by kernel_rfl) (by kernel_rfl) (by exact fun _ _ _ h => h) (Or.inr ⟨by rfl, rfl⟩) (by assumption) ?_) | fail); simp only [Act.put, sA, sB, sC, Bool.not_true, Bool.not_false]
            (first | (refine wpAnyH_take (i := 8) (v := _) (by simp only [gA, gB, gC]; rfl) (by kernel_rfl) (by kernel_rfl) (by kernel_rfl) (by exact fun _ _ _ h => h) (yields_cell (by rfl) _ rfl ⟨w.heap.size, 0, none⟩ rfl (.slice (some y) n ct) (fun _ q => q.box) slab_load) (by assumption) ?_) | (refine wpAnyH_take (i := 8) (v := undef) (by simp only [gA, gB, gC]; rfl) (by kernel_rfl) (by kernel_rfl) (by kernel_rfl) (by exact fun _ _ _ h => h) (Or.inr ⟨by rfl, rfl⟩) (by assumption) ?_) | fail); simp only [Act.put, sA, sB, sC, Bool.not_true, Bool.not_false]
            (first | (refine wpAnyH_take (i := 9) (v := ?_) (by simp only [gA, gB, gC]; rfl) (by kernel_rfl) (by kernel_rfl) (by kernel_rfl) (by exact fun _ _ _ h => h) (Or.inl ⟨by rfl, ?_⟩) (by assumption) ?_; rotate_left; (focus (intro w hSw; (try dsimp only at hSw); go_simp; try with_reducible rfl))) | (refine wpAnyH_take (i := 9) (v := undef) (by simp only [gA, gB, gC]; rfl) (by kernel_rfl) (by kernel_rfl) (by kernel_rfl) (by exact fun _ _ _ h => h) (Or.inr ⟨by rfl, rfl⟩) (by assumption) ?_) | fail); simp only [Act.put, sA, sB, sC, Bool.not_true, Bool.not_false]
            (first | (refine wpAnyH_take (i := 10) (v := ?_) (by simp only [gA, gB, gC]; rfl) (by kernel_rfl) (by kernel_rfl) (by kernel_rfl) (by exact fun _ _ _ h => h) (Or.inl ⟨by rfl, ?_⟩) (by assumption) ?_; rotate_left; (focus (intro w hSw; (try dsimp only at hSw); go_simp; try with_reducible rfl))) | (refine wpAnyH_take (i := 10) (v := undef) (by simp only [gA, gB, gC]; rfl) (by kernel_rfl) (by kernel_rfl) (by kernel_rfl) (by exact fun _ _ _ h => h) (Or.inr ⟨by rfl, rfl⟩) (by assumption) ?_) | fail); simp only [Act.put, sA, sB, sC, Bool.not_true, Bool.not_false]
            (first | (refine wpAnyH_take (i := 11) (v := _) (by simp only [gA, gB, gC]; rfl) (by kernel_rfl) (by kernel_rfl) (by kernel_rfl) (by exact fun _ _ _ h => h) (yields_at (by rfl) _ rfl _ rfl [.int .i64 tt.s, .int .i64 tt.c, .int .i64 tt.i, .int .i64 tt.k] (fun _ q => q.lab hl hti) Try.underlying25 rfl hsl) (by assumption) ?_) | (refine wpAnyH_take (i := 11) (v := undef) (by simp only [gA, gB, gC]; rfl) (by kernel_rfl) (by kernel_rfl) (by kernel_rfl) (by exact fun _ _ _ h => h) (Or.inr ⟨by rfl, rfl⟩) (by assumption) ?_) | fail); simp only [Act.put, sA, sB, sC, Bool.not_true, Bool.not_false]
            (first | (refine wpAnyH_take (i := 12) (v := ?_) (by simp only [gA, gB, gC]; rfl) (by kernel_rfl) (by kernel_rfl) (by kernel_rfl) (by exact fun _ _ _ h => h) (Or.inl ⟨by rfl, ?_⟩) (by assumption) ?_; rotate_left; (focus (intro w hSw; (try dsimp only at hSw); go_simp; try with_reducible rfl))) | (refine wpAnyH_take (i := 12) (v := undef) (by simp only [gA, gB, gC]; rfl) (by kernel_rfl) (by kernel_rfl) (by kernel_rfl) (by exact fun _ _ _ h => h) (Or.inr ⟨by rfl, rfl⟩) (by assumption) ?_) | fail); simp only [Act.put, sA, sB, sC, Bool.not_true, Bool.not_false]
            (first | (refine wpAnyH_take (i := 13) (v := ?_) (by simp only [gA, gB, gC]; rfl) (by kernel_rfl) (by kernel_rfl) (by kernel_rfl) (by exact fun _ _ _ h => h) (Or.inl ⟨by rfl, ?_⟩) (by assumption) ?_; rotate_left; (focus (intro w hSw; (try dsimp only at hSw); go_simp; try with_reducible rfl))) | (refine wpAnyH_take (i := 13) (v := undef) (by simp only [gA, gB, gC]; rfl) (by kernel_rfl) (by kernel_rfl) (by kernel_rfl) (by exact fun _ _ _ h => h) (Or.inr ⟨by rfl, rfl⟩) (by assumption) ?_) | fail); simp only [Act.put, sA, sB, sC, Bool.not_true, Bool.not_false]
            (first | (refine wpAnyH_take (i := 14) (v := ?_) (by simp only [gA, gB, gC]; rfl) (by kernel_rfl) (by kernel_rfl) (by kernel_rfl) (by exact fun _ _ _ h => h) (Or.inl ⟨by rfl, ?_⟩) (by assumption) ?_; rotate_left; (focus (intro w hSw; (try dsimp only at hSw); go_simp; try with_reducible rfl))) | (refine wpAnyH_take (i := 14) (v := undef) (by simp only [gA, gB, gC]; rfl) (by kernel_rfl) (by kernel_rfl) (by kernel_rfl) (by exact fun _ _ _ h => h) (Or.inr ⟨by rfl, rfl⟩) (by assumption) ?_) | fail); simp only [Act.put, sA, sB, sC, Bool.not_true, Bool.not_false]
            refine wpAnyH_done (by kernel_rfl) ?_ _
            go_wp2_with fail
            exact ⟨⟨j + 1, by omega, by simp, by rw [hat], hS0, hBd⟩, by simp [Go.RowKit.intOf]; omega⟩
        · obtain rfl : j = i := by omega
          cases hb : (ts.take j).any (fun t => labEq t tt)
          · replace hfs := hfs.out
            replace hds := hds.out
            rw [hb, if_neg (by decide)] at hfs hds
            rw [← hq.out] at hfs hds
            have hqn : Aside (q + 1 = (distTo ts (j + 1)).length) := hds.symm
            replace hfs : Aside _ := hfs
            clear hds hS ho hB
            have hS0 : FsZ w wr.drew (some y) n ct := hS2.then (Below.refl _ _).drew
            have ho0 : OwnN wr.drew (w.heap.size + 2) u4 (firstP ts j (some ⟨w.heap.size + 1, 0, none⟩)) := ho2
            have hwq : IntKind.i64.wrap (48 + (q : Int)) = ((48 + q : Nat) : Int) := by rw [IntKind.wrap_i64]; omega
            have hc2 : ¬ 9223372036854775807 < 2 + (chr (48 + q)).size := by show ¬ 9223372036854775807 < 2 + 1; decide
            have hwu2 : IntKind.u8.wrap (48 + (q : Int)) = ((48 + q : Nat) : Int) := by rw [IntKind.wrap_u8]; omega
            have hwu : IntKind.u8.wrap ((48 + q : Nat) : Int) = ((48 + q : Nat) : Int) := by rw [IntKind.wrap_u8]; omega
            clear hS2 ho2
            go_wp2_with fail
            refine wp_region_held_drew (S := (fun W => FsZ w W (some y) n ct)) (by kernel_rfl) (by exact hS0) ?_
            intro hHeld
            generalize wr.drew = w0 at *
            refine wpAnyH_take (i := 0) (v := ?_) (by simp only [gA, gB, gC]; rfl) (by kernel_rfl) (by kernel_rfl) (by kernel_rfl) (by exact fun _ _ _ h => h) (Or.inl ⟨by rfl, ?_⟩) (by assumption) ?_; rotate_left; (focus (intro w hSw; (try dsimp only at hSw); go_simp; try with_reducible rfl)); (try simp only [Act.put, sA, sB, sC])
            refine wpAnyH_take (i := 1) (v := ?_) (by simp only [gA, gB, gC]; rfl) (by kernel_rfl) (by kernel_rfl) (by kernel_rfl) (by exact fun _ _ _ h => h) (Or.inl ⟨by rfl, ?_⟩) (by assumption) ?_; rotate_left; (focus (intro w hSw; (try dsimp only at hSw); go_simp; try with_reducible rfl)); (try simp only [Act.put, sA, sB, sC])
            refine wpAnyH_take (i := 2) (v := ?_) (by simp only [gA, gB, gC]; rfl) (by kernel_rfl) (by kernel_rfl) (by kernel_rfl) (by exact fun _ _ _ h => h) (Or.inl ⟨by rfl, ?_⟩) (by assumption) ?_; rotate_left; (focus (intro w hSw; (try dsimp only at hSw); go_simp; try with_reducible rfl)); (try simp only [Act.put, sA, sB, sC])
            refine wpAnyH_take (i := 3) (v := ?_) (by simp only [gA, gB, gC]; rfl) (by kernel_rfl) (by kernel_rfl) (by kernel_rfl) (by exact fun _ _ _ h => h) (Or.inl ⟨by rfl, ?_⟩) (by assumption) ?_; rotate_left; (focus (intro w hSw; (try dsimp only at hSw); go_simp; try with_reducible rfl)); (try simp only [Act.put, sA, sB, sC])
            refine wpAnyH_take (i := 7) (v := ?_) (by simp only [gA, gB, gC]; rfl) (by kernel_rfl) (by kernel_rfl) (by kernel_rfl) (by exact fun _ _ _ h => h) (Or.inl ⟨by rfl, ?_⟩) (by assumption) ?_; rotate_left; (focus (intro w hSw; (try dsimp only at hSw); go_simp; try with_reducible rfl)); (try simp only [Act.put, sA, sB, sC])
            refine wpAnyH_take (i := 8) (v := _) (by simp only [gA, gB, gC]; rfl) (by kernel_rfl) (by kernel_rfl) (by kernel_rfl) (by exact fun _ _ _ h => h) (yields_cell (by rfl) _ rfl ⟨w.heap.size, 0, none⟩ rfl (.slice (some y) n ct) (fun _ q => q.box) slab_load) (by assumption) ?_; (try simp only [Act.put, sA, sB, sC])
            refine wpAnyH_take (i := 9) (v := ?_) (by simp only [gA, gB, gC]; rfl) (by kernel_rfl) (by kernel_rfl) (by kernel_rfl) (by exact fun _ _ _ h => h) (Or.inl ⟨by rfl, ?_⟩) (by assumption) ?_; rotate_left; (focus (intro w hSw; (try dsimp only at hSw); go_simp; try with_reducible rfl)); (try simp only [Act.put, sA, sB, sC])
            refine wpAnyH_take (i := 10) (v := ?_) (by simp only [gA, gB, gC]; rfl) (by kernel_rfl) (by kernel_rfl) (by kernel_rfl) (by exact fun _ _ _ h => h) (Or.inl ⟨by rfl, ?_⟩) (by assumption) ?_; rotate_left; (focus (intro w hSw; (try dsimp only at hSw); go_simp; try with_reducible rfl)); (try simp only [Act.put, sA, sB, sC])
            refine wpAnyH_take (i := 11) (v := _) (by simp only [gA, gB, gC]; rfl) (by kernel_rfl) (by kernel_rfl) (by kernel_rfl) (by exact fun _ _ _ h => h) (yields_at (by rfl) _ rfl _ rfl [.int .i64 tt.s, .int .i64 tt.c, .int .i64 tt.i, .int .i64 tt.k] (fun _ q => q.lab hl hti) Try.underlying25 rfl hsl) (by assumption) ?_; (try simp only [Act.put, sA, sB, sC])
            refine wpAnyH_take (i := 12) (v := ?_) (by simp only [gA, gB, gC]; rfl) (by kernel_rfl) (by kernel_rfl) (by kernel_rfl) (by exact fun _ _ _ h => h) (Or.inl ⟨by rfl, ?_⟩) (by assumption) ?_; rotate_left; (focus (intro w hSw; (try dsimp only at hSw); go_simp; try with_reducible rfl)); (try simp only [Act.put, sA, sB, sC])
            refine wpAnyH_ready (rs := [4, 13]) (by kernel_rfl) (by simp) ?_
            refine AllReadyH.cons (by simp only [gA, gB, gC]; rfl) (fun K hK => ?_) ?_
            · go_simp
              (try simp only [hwu2])
              refine hK.out _ _ (hS0.then (alloc_below _ _)) ?_
              clear hHeld hK
              intro hHeld
              have hbt := chr_made2 w0 q (by omega)
              have hS1 := hS0.then (alloc_below w0 (.cells #[.int .u8 (48 + (q : Int))] 5))
              have ho1 := ho0.below (alloc_below w0 (.cells #[.int .u8 (48 + (q : Int))] 5))
              generalize hwx : w0.alloc (.cells #[.int .u8 (48 + (q : Int))] 5) = w1 at *
              clear hwx
              generalize w0.heap.size = pb at *
              (try simp only [Act.put, sA, sB, sC])
              refine wpAnyH_ready (rs := [5, 13]) (by kernel_rfl) (by simp) ?_
              refine AllReadyH.cons (by simp only [gA, gB, gC]; rfl) (fun K hK => ?_) ?_
              · skip
                refine step_conv rfl _ rfl rfl hbt.conv ?_
                (try simp only [Act.put, sA, sB, sC])
                refine hK.out _ _ (hS1) ?_
                clear hHeld hK
                intro hHeld
                have hS2 := hS1
                have ho2 := ho1
                obtain ⟨w2, hww⟩ : ∃ w', w1 = w' := ⟨_, rfl⟩
                rw [hww] at hS2 ho2 hHeld ⊢
                clear hww
                (try simp only [Act.put, sA, sB, sC])
                refine wpAnyH_take (i := 6) (v := ?_) (by simp only [gA, gB, gC]; rfl) (by kernel_rfl) (by kernel_rfl) (by kernel_rfl) (by exact fun _ _ _ h => h) (Or.inl ⟨by rfl, ?_⟩) (by assumption) ?_; rotate_left; (focus (intro w hSw; (try dsimp only at hSw); go_simp; try with_reducible rfl)); (try simp only [Act.put, sA, sB, sC])
                refine wpAnyH_ready (rs := [13]) (by kernel_rfl) (by simp) ?_
                refine AllReadyH.cons (by simp only [gA, gB, gC]; rfl) (fun K hK => ?_) AllReadyH.nil
                go_simp
                go_at_call 36
                refine (rlbottom_any _).mono ?_
                rintro e w3 ⟨rfl, hB⟩
                have hS3 := hS2.then hB
                have ho3 := ho2.below hB
                refine hK.out _ _ (hS3) ?_
                clear hHeld hK
                intro hHeld
                (try simp only [Act.put, sA, sB, sC])
                refine wpAnyH_take (i := 14) (v := ?_) (by simp only [gA, gB, gC]; rfl) (by kernel_rfl) (by kernel_rfl) (by kernel_rfl) (by exact fun _ _ _ h => h) (Or.inl ⟨by rfl, ?_⟩) (by assumption) ?_; rotate_left; (focus (intro w hSw; (try dsimp only at hSw); go_simp; try with_reducible rfl)); (try simp only [Act.put, sA, sB, sC])
                refine wpAnyH_ready (rs := [15]) (by kernel_rfl) (by simp) ?_
                refine AllReadyH.cons (by simp only [gA, gB, gC]; rfl) (fun K hK => ?_) AllReadyH.nil
                refine step_build1 pn_ok (by decide) rfl _ rfl [.string (⟨#[47, 108]⟩ ++ chr (48 + q)), .bool true, .int .i64 tt.s, .int .i64 tt.c, .int .i64 tt.i, .int .i64 tt.k, .slice (some ⟨w.heap.size + 1, 0, none⟩) 1 1, .int .i64 0, .int .i64 0, .int .i64 0, .int .i64 0, .slice none 0 0, .int .i64 bottomL.s, .int .i64 bottomL.c, .int .i64 bottomL.i, .int .i64 bottomL.k] rfl rfl ?_
                (try simp only [Act.put, sA, sB, sC])
                refine hK.out _ _ (hS3.then (alloc_below _ _)) ?_
                clear hHeld hK
                intro hHeld
                obtain ⟨vz, wz, hap, hoz, hgz⟩ := OwnR.push pn_ok ho3 hS3.sz ⟨dirN q tt, some ⟨w.heap.size + 1, 0, none⟩, 1, none, 0⟩ [.string (⟨#[47, 108]⟩ ++ chr (48 + q)), .bool true, .int .i64 tt.s, .int .i64 tt.c, .int .i64 tt.i, .int .i64 tt.k, .slice (some ⟨w.heap.size + 1, 0, none⟩) 1 1, .int .i64 0, .int .i64 0, .int .i64 0, .int .i64 0, .slice none 0 0, .int .i64 bottomL.s, .int .i64 bottomL.c, .int .i64 bottomL.i, .int .i64 bottomL.k].toArray (by rw [dir_cs]) 36 (by rw [firstP_len]; have := hdl j; omega)
                have hbz := ho3.grew_below hS3.sz hgz
                have hSz := hS3.grown hbz
                rw [← hfs.out] at hoz
                (try simp only [Act.put, sA, sB, sC])
                refine wpAnyH_ready (rs := [16]) (by kernel_rfl) (by simp) ?_
                refine AllReadyH.cons (by simp only [gA, gB, gC]; rfl) (fun K hK => ?_) AllReadyH.nil
                refine step_append rfl _ _ rfl rfl rfl rfl hap ?_
                (try simp only [Act.put, sA, sB, sC])
                refine hK.out _ _ (hSz) ?_
                clear hHeld hK
                intro hHeld
                (try simp only [Act.put, sA, sB, sC])
                refine wpAnyH_take (i := 17) (v := ?_) (by simp only [gA, gB, gC]; rfl) (by kernel_rfl) (by kernel_rfl) (by kernel_rfl) (by exact fun _ _ _ h => h) (Or.inl ⟨by rfl, ?_⟩) (by assumption) ?_; rotate_left; (focus (intro w hSw; (try dsimp only at hSw); go_simp; try with_reducible rfl)); (try simp only [Act.put, sA, sB, sC])
                refine wpAnyH_done (by kernel_rfl) ?_ _
                go_wp2_with fail
                exact ⟨⟨j + 1, by omega, by simp, q + 1, by simp, hqn, hSz, hoz⟩, by simp [Go.RowKit.intOf]; omega⟩
              refine AllReadyH.cons (by simp only [gA, gB, gC]; rfl) (fun K hK => ?_) AllReadyH.nil
              go_simp
              go_at_call 36
              refine (rlbottom_any _).mono ?_
              rintro e w2 ⟨rfl, hB⟩
              have hS2 := hS1.then hB
              have ho2 := ho1.below hB
              have hbt := hbt.below hB
              refine hK.out _ _ (hS2) ?_
              clear hHeld hK
              intro hHeld
              (try simp only [Act.put, sA, sB, sC])
              refine wpAnyH_ready (rs := [5]) (by kernel_rfl) (by simp) ?_
              refine AllReadyH.cons (by simp only [gA, gB, gC]; rfl) (fun K hK => ?_) AllReadyH.nil
              refine step_conv rfl _ rfl rfl hbt.conv ?_
              (try simp only [Act.put, sA, sB, sC])
              refine hK.out _ _ (hS2) ?_
              clear hHeld hK
              intro hHeld
              have hS3 := hS2
              have ho3 := ho2
              obtain ⟨w3, hww⟩ : ∃ w', w2 = w' := ⟨_, rfl⟩
              rw [hww] at hS3 ho3 hHeld ⊢
              clear hww
              (try simp only [Act.put, sA, sB, sC])
              refine wpAnyH_take (i := 6) (v := ?_) (by simp only [gA, gB, gC]; rfl) (by kernel_rfl) (by kernel_rfl) (by kernel_rfl) (by exact fun _ _ _ h => h) (Or.inl ⟨by rfl, ?_⟩) (by assumption) ?_; rotate_left; (focus (intro w hSw; (try dsimp only at hSw); go_simp; try with_reducible rfl)); (try simp only [Act.put, sA, sB, sC])
              refine wpAnyH_take (i := 14) (v := ?_) (by simp only [gA, gB, gC]; rfl) (by kernel_rfl) (by kernel_rfl) (by kernel_rfl) (by exact fun _ _ _ h => h) (Or.inl ⟨by rfl, ?_⟩) (by assumption) ?_; rotate_left; (focus (intro w hSw; (try dsimp only at hSw); go_simp; try with_reducible rfl)); (try simp only [Act.put, sA, sB, sC])
              refine wpAnyH_ready (rs := [15]) (by kernel_rfl) (by simp) ?_
              refine AllReadyH.cons (by simp only [gA, gB, gC]; rfl) (fun K hK => ?_) AllReadyH.nil
              refine step_build1 pn_ok (by decide) rfl _ rfl [.string (⟨#[47, 108]⟩ ++ chr (48 + q)), .bool true, .int .i64 tt.s, .int .i64 tt.c, .int .i64 tt.i, .int .i64 tt.k, .slice (some ⟨w.heap.size + 1, 0, none⟩) 1 1, .int .i64 0, .int .i64 0, .int .i64 0, .int .i64 0, .slice none 0 0, .int .i64 bottomL.s, .int .i64 bottomL.c, .int .i64 bottomL.i, .int .i64 bottomL.k] rfl rfl ?_
              (try simp only [Act.put, sA, sB, sC])
              refine hK.out _ _ (hS3.then (alloc_below _ _)) ?_
              clear hHeld hK
              intro hHeld
              obtain ⟨vz, wz, hap, hoz, hgz⟩ := OwnR.push pn_ok ho3 hS3.sz ⟨dirN q tt, some ⟨w.heap.size + 1, 0, none⟩, 1, none, 0⟩ [.string (⟨#[47, 108]⟩ ++ chr (48 + q)), .bool true, .int .i64 tt.s, .int .i64 tt.c, .int .i64 tt.i, .int .i64 tt.k, .slice (some ⟨w.heap.size + 1, 0, none⟩) 1 1, .int .i64 0, .int .i64 0, .int .i64 0, .int .i64 0, .slice none 0 0, .int .i64 bottomL.s, .int .i64 bottomL.c, .int .i64 bottomL.i, .int .i64 bottomL.k].toArray (by rw [dir_cs]) 36 (by rw [firstP_len]; have := hdl j; omega)
              have hbz := ho3.grew_below hS3.sz hgz
              have hSz := hS3.grown hbz
              rw [← hfs.out] at hoz
              (try simp only [Act.put, sA, sB, sC])
              refine wpAnyH_ready (rs := [16]) (by kernel_rfl) (by simp) ?_
              refine AllReadyH.cons (by simp only [gA, gB, gC]; rfl) (fun K hK => ?_) AllReadyH.nil
              refine step_append rfl _ _ rfl rfl rfl rfl hap ?_
              (try simp only [Act.put, sA, sB, sC])
              refine hK.out _ _ (hSz) ?_
              clear hHeld hK
              intro hHeld
              (try simp only [Act.put, sA, sB, sC])
              refine wpAnyH_take (i := 17) (v := ?_) (by simp only [gA, gB, gC]; rfl) (by kernel_rfl) (by kernel_rfl) (by kernel_rfl) (by exact fun _ _ _ h => h) (Or.inl ⟨by rfl, ?_⟩) (by assumption) ?_; rotate_left; (focus (intro w hSw; (try dsimp only at hSw); go_simp; try with_reducible rfl)); (try simp only [Act.put, sA, sB, sC])
              refine wpAnyH_done (by kernel_rfl) ?_ _
              go_wp2_with fail
              exact ⟨⟨j + 1, by omega, by simp, q + 1, by simp, hqn, hSz, hoz⟩, by simp [Go.RowKit.intOf]; omega⟩
            refine AllReadyH.cons (by simp only [gA, gB, gC]; rfl) (fun K hK => ?_) AllReadyH.nil
            go_simp
            go_at_call 36
            refine (rlbottom_any _).mono ?_
            rintro e w1 ⟨rfl, hB⟩
            have hS1 := hS0.then hB
            have ho1 := ho0.below hB
            refine hK.out _ _ (hS1) ?_
            clear hHeld hK
            intro hHeld
            (try simp only [Act.put, sA, sB, sC])
            refine wpAnyH_ready (rs := [4]) (by kernel_rfl) (by simp) ?_
            refine AllReadyH.cons (by simp only [gA, gB, gC]; rfl) (fun K hK => ?_) AllReadyH.nil
            go_simp
            (try simp only [hwu2])
            refine hK.out _ _ (hS1.then (alloc_below _ _)) ?_
            clear hHeld hK
            intro hHeld
            have hbt := chr_made2 w1 q (by omega)
            have hS2 := hS1.then (alloc_below w1 (.cells #[.int .u8 (48 + (q : Int))] 5))
            have ho2 := ho1.below (alloc_below w1 (.cells #[.int .u8 (48 + (q : Int))] 5))
            generalize hwx : w1.alloc (.cells #[.int .u8 (48 + (q : Int))] 5) = w2 at *
            clear hwx
            generalize w1.heap.size = pb at *
            (try simp only [Act.put, sA, sB, sC])
            refine wpAnyH_ready (rs := [5]) (by kernel_rfl) (by simp) ?_
            refine AllReadyH.cons (by simp only [gA, gB, gC]; rfl) (fun K hK => ?_) AllReadyH.nil
            refine step_conv rfl _ rfl rfl hbt.conv ?_
            (try simp only [Act.put, sA, sB, sC])
            refine hK.out _ _ (hS2) ?_
            clear hHeld hK
            intro hHeld
            have hS3 := hS2
            have ho3 := ho2
            obtain ⟨w3, hww⟩ : ∃ w', w2 = w' := ⟨_, rfl⟩
            rw [hww] at hS3 ho3 hHeld ⊢
            clear hww
            (try simp only [Act.put, sA, sB, sC])
            refine wpAnyH_take (i := 6) (v := ?_) (by simp only [gA, gB, gC]; rfl) (by kernel_rfl) (by kernel_rfl) (by kernel_rfl) (by exact fun _ _ _ h => h) (Or.inl ⟨by rfl, ?_⟩) (by assumption) ?_; rotate_left; (focus (intro w hSw; (try dsimp only at hSw); go_simp; try with_reducible rfl)); (try simp only [Act.put, sA, sB, sC])
            refine wpAnyH_take (i := 14) (v := ?_) (by simp only [gA, gB, gC]; rfl) (by kernel_rfl) (by kernel_rfl) (by kernel_rfl) (by exact fun _ _ _ h => h) (Or.inl ⟨by rfl, ?_⟩) (by assumption) ?_; rotate_left; (focus (intro w hSw; (try dsimp only at hSw); go_simp; try with_reducible rfl)); (try simp only [Act.put, sA, sB, sC])
            refine wpAnyH_ready (rs := [15]) (by kernel_rfl) (by simp) ?_
            refine AllReadyH.cons (by simp only [gA, gB, gC]; rfl) (fun K hK => ?_) AllReadyH.nil
            refine step_build1 pn_ok (by decide) rfl _ rfl [.string (⟨#[47, 108]⟩ ++ chr (48 + q)), .bool true, .int .i64 tt.s, .int .i64 tt.c, .int .i64 tt.i, .int .i64 tt.k, .slice (some ⟨w.heap.size + 1, 0, none⟩) 1 1, .int .i64 0, .int .i64 0, .int .i64 0, .int .i64 0, .slice none 0 0, .int .i64 bottomL.s, .int .i64 bottomL.c, .int .i64 bottomL.i, .int .i64 bottomL.k] rfl rfl ?_
            (try simp only [Act.put, sA, sB, sC])
            refine hK.out _ _ (hS3.then (alloc_below _ _)) ?_
            clear hHeld hK
            intro hHeld
            obtain ⟨vz, wz, hap, hoz, hgz⟩ := OwnR.push pn_ok ho3 hS3.sz ⟨dirN q tt, some ⟨w.heap.size + 1, 0, none⟩, 1, none, 0⟩ [.string (⟨#[47, 108]⟩ ++ chr (48 + q)), .bool true, .int .i64 tt.s, .int .i64 tt.c, .int .i64 tt.i, .int .i64 tt.k, .slice (some ⟨w.heap.size + 1, 0, none⟩) 1 1, .int .i64 0, .int .i64 0, .int .i64 0, .int .i64 0, .slice none 0 0, .int .i64 bottomL.s, .int .i64 bottomL.c, .int .i64 bottomL.i, .int .i64 bottomL.k].toArray (by rw [dir_cs]) 36 (by rw [firstP_len]; have := hdl j; omega)
            have hbz := ho3.grew_below hS3.sz hgz
            have hSz := hS3.grown hbz
            rw [← hfs.out] at hoz
            (try simp only [Act.put, sA, sB, sC])
            refine wpAnyH_ready (rs := [16]) (by kernel_rfl) (by simp) ?_
            refine AllReadyH.cons (by simp only [gA, gB, gC]; rfl) (fun K hK => ?_) AllReadyH.nil
            refine step_append rfl _ _ rfl rfl rfl rfl hap ?_
            (try simp only [Act.put, sA, sB, sC])
            refine hK.out _ _ (hSz) ?_
            clear hHeld hK
            intro hHeld
            (try simp only [Act.put, sA, sB, sC])
            refine wpAnyH_take (i := 17) (v := ?_) (by simp only [gA, gB, gC]; rfl) (by kernel_rfl) (by kernel_rfl) (by kernel_rfl) (by exact fun _ _ _ h => h) (Or.inl ⟨by rfl, ?_⟩) (by assumption) ?_; rotate_left; (focus (intro w hSw; (try dsimp only at hSw); go_simp; try with_reducible rfl)); (try simp only [Act.put, sA, sB, sC])
            refine wpAnyH_done (by kernel_rfl) ?_ _
            go_wp2_with fail
            exact ⟨⟨j + 1, by omega, by simp, q + 1, by simp, hqn, hSz, hoz⟩, by simp [Go.RowKit.intOf]; omega⟩
          · replace hfs := hfs.out
            replace hds := hds.out
            rw [hb, if_pos rfl] at hfs hds
            have hqn : Aside (q = (distTo ts (j + 1)).length) := by rw [hq.out]; exact hds.symm
            rw [← hfs] at ho2
            clear hfs hds
            go_wp2_with fail
            exact ⟨⟨j + 1, by omega, by simp, q, rfl, hqn, hS2, ho2⟩, by simp [Go.RowKit.intOf]; omega⟩
    · obtain rfl : i = n := by omega
      go_wp2_with fail
      go_ret
      exact ⟨_, rfl, ho.lower (by omega), hS.all, hS.bl⟩
end Go.Proofs.Ytajondkpdgiolaa

/-! PARTS OF A STRUCT'S BLOCK, stored whole: what the block holds then. For every stage from the eleventh on. -/
namespace Go.Proofs.Ytajondkpdgiolaa
open Go.RowKit
set_option maxRecDepth 8000
set_option linter.unusedSimpArgs false
set_option linter.unusedVariables false

def setM : List Value → Nat → List Value → List Value
  | cs, _, [] => cs
  | cs, k, v :: r => setM (cs.set k v) (k + 1) r
theorem setM_len : ∀ (vs : List Value) (cs : List Value) (k : Nat), (setM cs k vs).length = cs.length
  | [], _, _ => rfl
  | v :: r, cs, k => by rw [setM, setM_len r, List.length_set]
theorem Blk.putM : ∀ (vs : List Value) {W : World} {b : Nat} {cs : List Value} (k : Nat), Blk W b cs → k + vs.length ≤ cs.length → Blk (W.setCells b k vs) b (setM cs k vs)
  | [], _, _, _, _, h, _ => h
  | v :: r, W, b, cs, k, h, hl => by
    simp at hl
    exact Blk.putM r (k + 1) (h.set k v (by omega)) (by simp; omega)
theorem Blk.thereM {W : World} {b : Nat} {cs : List Value} (h : Blk W b cs) (k m : Nat) (hl : k + m ≤ cs.length) : W.there b k m := fun j hj => by
  have := h (k + j) cs[k + j] (List.getElem?_eq_getElem (by omega))
  exact ⟨by rw [this.1]; rfl, this.2⟩
/-- A part of a struct's block is stored: the block, and what lies elsewhere. -/
theorem put_mid {W : World} {b : Nat} {cs : List Value} (h : BlkL b cs W) (k : Nat) (vs : List Value) (hl : k + vs.length ≤ cs.length) (hp : 0 < cs.length) {Z : World} (hb : Below Z.heap.size Z W) (hz : Z.heap.size ≤ b) :
    ∃ W', W.setCells b k vs = W' ∧ W.there b k vs.length ∧ BlkL b (setM cs k vs) W' ∧ Below Z.heap.size Z W' := by
  have h1 := Blk.putM vs k h.1 hl
  refine ⟨_, rfl, h.1.thereM k vs.length hl, ⟨h1, ?_⟩, Below.cells hz vs k hb⟩
  have hl2 : 0 < (setM cs k vs).length := by rw [setM_len]; exact hp
  exact h1.lt (List.getElem?_eq_getElem hl2)
theorem OwnR.mid {α : Type} {e : TypeId} {sz : Nat} {f : α → List Value} {w : World} {base g : Nat} {v : Value} {l : List α} (h : OwnR e sz f w base v l) (hg : v.ownBlock ≠ some g) (o : Nat) (vs : List Value) : OwnR e sz f (w.setCells g o vs) base v l :=
  h.keep fun k hk => heap_setCells_other (fun q => hg (by rw [hk, q])) vs o w
section
variable {ops : Array Oper} {rest : List Oper} {o : Oper} {a : Act} {w W : World} {Q : Exit → Act → World → Prop} {T : TypeId}
theorem wpList_store_part (hg : o.guard = none) (x y : Operand) (ho : o.op = .store T x y) (b k : Nat) (hx : a.eval x = .pointer (some ⟨b, k, none⟩)) (cs : List Value) (hy : a.eval y = .agg cs.toArray)
    (ht : w.there b k cs.length) (hi : (Try.prog.info? T).map (·.size) = some cs.length) (h1 : ∀ v ∈ cs, v.oneCell' = true) (hW : w.setCells b k cs = W)
    (h : wpList Try.prog ops Q rest (a.put o.dst undef) W) : wpList Try.prog ops Q (o :: rest) a w :=
  wpList_store_mid hg T x y ho b k cs.toArray hx hy ht hi (all_oneCell_toArray h1) (hW ▸ h)
theorem step_store_part {K : Act → World → Prop} {E : Prop} (hg : o.guard = none) (x y : Operand) (ho : o.op = .store T x y) (b k : Nat) (hx : a.eval x = .pointer (some ⟨b, k, none⟩)) (cs : List Value) (hy : a.eval y = .agg cs.toArray)
    (ht : w.there b k cs.length) (hi : (Try.prog.info? T).map (·.size) = some cs.length) (h1 : ∀ v ∈ cs, v.oneCell' = true) (hW : w.setCells b k cs = W) (hK : K (a.put o.dst undef) W) :
    if Region.wanted o (yielded ops a.tmps) = true then Oper.wp Try.prog o a w K Q else E := by
  have hw : Region.wanted o (yielded ops a.tmps) = true := by simp [Region.wanted, hg]
  rw [if_pos hw]
  exact wp_store_mid T x y ho b k cs.toArray hx hy ht hi (all_oneCell_toArray h1) (hW ▸ hK)
end
end Go.Proofs.Ytajondkpdgiolaa

/-! LABELS IN BLOCKS OF THE LAW'S OWN, turned where they lie. For every stage from the twelfth on. -/
namespace Go.Proofs.Ytajondkpdgiolaa
open Go.RowKit
set_option maxRecDepth 8000
set_option linter.unusedSimpArgs false
set_option linter.unusedVariables false

abbrev lab4 (t : Lab) : List Value := [.int .i64 t.s, .int .i64 t.c, .int .i64 t.i, .int .i64 t.k]
theorem lab4_one (t : Lab) : ∀ v ∈ lab4 t, v.oneCell' = true := by
  intro v hv
  simp only [List.mem_cons, List.not_mem_nil, or_false] at hv
  rcases hv with rfl | rfl | rfl | rfl <;> rfl
theorem size_setCells (b : Nat) : ∀ (vs : List Value) (o : Nat) (w : World), (w.setCells b o vs).heap.size = w.heap.size
  | [], _, _ => rfl
  | v :: r, o, w => by
    show ((w.setCell ⟨b, o, none⟩ v).setCells b (o + 1) r).heap.size = _
    rw [size_setCells b r (o + 1)]
    simp
/-- Another block, behind a store. -/
theorem BlkL.other {g b o : Nat} {cs vs : List Value} {W W' : World} (h : BlkL g cs W) (hw : W.setCells b o vs = W') (hne : g ≠ b) : BlkL g cs W' := by
  subst hw
  exact ⟨h.1.same (heap_setCells_other hne vs o W), by rw [size_setCells]; exact h.2⟩
section
variable {ops : Array Oper} {o : Oper} {a : Act} {w : World} {Q : Exit → Act → World → Prop} {T : TypeId} {d : TypeDesc}
theorem step_load_row {K : Act → World → Prop} {E : Prop} (hg : o.guard = none) (x : Operand) (ho : o.op = .load T x) (b : Nat) (hx : a.eval x = .pointer (some ⟨b, 0, none⟩)) (cs : List Value) (hc : w.rangeAt b 0 cs)
    (hu : Try.prog.underlying T = some d) (hd : d.isRow = true) (hi : (Try.prog.info? T).map (·.size) = some cs.length) (hK : K (a.put o.dst (.agg cs.toArray)) w) :
    if Region.wanted o (yielded ops a.tmps) = true then Oper.wp Try.prog o a w K Q else E := by
  have hw : Region.wanted o (yielded ops a.tmps) = true := by simp [Region.wanted, hg]
  rw [if_pos hw]
  exact wp_load_mid T x ho b 0 hx cs d hc hu hd hi hK
end
end Go.Proofs.Ytajondkpdgiolaa

/-! THE DOCUMENT'S OWN COUNTS: donjonref12's Nodes, May, Of, Add. -/
namespace Go.Proofs.Ytajondkpdgiolaa
open Go.RowKit
set_option maxRecDepth 8000
set_option linter.unusedSimpArgs false
set_option linter.unusedVariables false

theorem cells_sub {W : World} {x : Addr} {cs : List Value} (h : CellsAt W x cs) (k : Nat) (hk : k ≠ 0) (ds : List Value) (hd : ∀ j v, ds[j]? = some v → cs[k + j]? = some v) : CellsAt W ⟨x.block, x.off + k, none⟩ ds := fun j v hv => by
  have h1 := h (k + j) v (hd j v hv)
  have e : (⟨x.block, x.off + k, none⟩ : Addr).add j = x.add (k + j) := by
    unfold Addr.add
    by_cases hj : j = 0
    · subst hj
      simp [hk]
    · rw [if_neg hj, if_neg (by omega)]
      simp [Nat.add_assoc]
  rw [e]
  exact h1
theorem node_by {W : World} {x : Addr} {p : PN} (h : CellsAt W x p.cs) : CellsAt W ⟨x.block, x.off + 12, none⟩ (lab4 p.n.by_) := cells_sub h 12 (by decide) _ fun j v hv => by
  match j, hv with
  | 0, hv => exact hv
  | 1, hv => exact hv
  | 2, hv => exact hv
  | 3, hv => exact hv
set_option maxHeartbeats 2000000 in
theorem rqnodes_any (a : Option Addr) (cap : Nat) (l : List PN) (b : Lab) (hl : l.length ≤ 1000000) (w : World) (h : RowAt 16 PN.cs w a l) :
    Calls Try.prog 11 #[.slice a l.length cap, b.v] w fun e w' => e = .returned (.int .i64 ((cntBy (namesP l) b : Nat) : Int)) ∧ Below w.heap.size w w' := by
  have hund := Try.underlying25
  have hsl : (Try.prog.info? 25).map (·.size) = some 4 := by kernel_rfl
  have hb0 := blkl_alloc w (lab4 b).toArray 25
  have hB0 := alloc_below w (.cells (lab4 b).toArray 25)
  obtain ⟨R, hR⟩ : ∃ R, cntBy (namesP l) b = R := ⟨_, rfl⟩
  rw [hR]
  replace hR : Aside (cntBy (namesP l) b = R) := hR
  obtain ⟨n, hn⟩ : ∃ n, l.length = n := ⟨_, rfl⟩
  rw [hn] at hl ⊢
  replace hn : Aside (l.length = n) := hn
  go_enter Try.func11, Try.ntmps11
  go_wp2_with fail
  generalize w.alloc (.cells #[.int .i64 b.s, .int .i64 b.c, .int .i64 b.i, .int .i64 b.k] 25) = W0 at *
  go_loopw [5, 6] (fun t5 t6 wr => ∃ i q : Nat, i ≤ n ∧ q ≤ i ∧ t6 = .int .i64 (i : Int) ∧ t5 = .int .i64 (q : Int) ∧ Aside (((namesP l).take i).countP (fun x => labEq x.by_ b) = q) ∧ Below W0.heap.size W0 wr) (fun _ t6 _ => n - (Go.RowKit.intOf t6).toNat)
  case atStart => exact ⟨0, 0, by omega, by omega, rfl, rfl, rfl, Below.refl _ _⟩
  case round =>
    obtain ⟨i, q, hi, hqi, rfl, rfl, hq, hB⟩ := hrel
    by_cases hlt : i < n
    · obtain ⟨x, hx⟩ : ∃ x, l[i]? = some x := ⟨_, List.getElem?_eq_getElem (by rw [hn.out]; exact hlt)⟩
      have hBw := Below.then hB0 hB
      obtain ⟨y, rfl, -⟩ := h i x hx
      have hc := node_by ((h.below pn_len hBw).at pn_len hx)
      have hbw := stab_blk _ _ _ _ hb0 hB
      have hct := countP_take (fun x : Nod => labEq x.by_ b) (l := namesP l) (i := i) (x := x.n) (by unfold namesP; rw [List.getElem?_map, hx]; rfl)
      rw [hq.out] at hct
      have hnq : ∀ W, (binOp .eql 25 (.agg (lab4 x.n.by_).toArray) (.agg (lab4 b).toArray)).run Try.prog W = .ok (.bool (labEq x.n.by_ b)) W := run_eql_lab x.n.by_ b
      have hS : (fun W => CellsAt W ⟨(y.add (i * 16)).block, (y.add (i * 16)).off + 12, none⟩ (lab4 x.n.by_) ∧ BlkL w.heap.size (lab4 b) W) wr.drew := ⟨hc, hbw⟩
      have hBd := Below.then hB (Below.refl wr.heap.size wr).drew
      have i1 : (i : Int) < (n : Int) := by omega
      clear hc hbw hx
      cases he : labEq x.n.by_ b
      · rw [he, if_neg (by decide)] at hct
        rw [he] at hnq
        replace hct : Aside _ := hct
        go_wp2_with fail
        refine wp_region_held_drew (S := (fun W => CellsAt W ⟨(y.add (i * 16)).block, (y.add (i * 16)).off + 12, none⟩ (lab4 x.n.by_) ∧ BlkL w.heap.size (lab4 b) W)) (by kernel_rfl) (by exact hS) ?_
        intro hHeld
        (first | (refine wpAnyH_take (i := 0) (v := ?_) (by simp only [gA, gB, gC]; rfl) (by kernel_rfl) (by kernel_rfl) (by kernel_rfl) (by exact fun _ _ _ h => h) (Or.inl ⟨by rfl, ?_⟩) (by assumption) ?_; rotate_left; (focus (intro w hSw; (try dsimp only at hSw); go_simp; try with_reducible rfl))) | (refine wpAnyH_take (i := 0) (v := undef) (by simp only [gA, gB, gC]; rfl) (by kernel_rfl) (by kernel_rfl) (by kernel_rfl) (by exact fun _ _ _ h => h) (Or.inr ⟨by rfl, rfl⟩) (by assumption) ?_) | fail); simp only [Act.put, sA, sB, sC]
        (first | (refine wpAnyH_take (i := 1) (v := ?_) (by simp only [gA, gB, gC]; rfl) (by kernel_rfl) (by kernel_rfl) (by kernel_rfl) (by exact fun _ _ _ h => h) (Or.inl ⟨by rfl, ?_⟩) (by assumption) ?_; rotate_left; (focus (intro w hSw; (try dsimp only at hSw); go_simp; try with_reducible rfl))) | (refine wpAnyH_take (i := 1) (v := undef) (by simp only [gA, gB, gC]; rfl) (by kernel_rfl) (by kernel_rfl) (by kernel_rfl) (by exact fun _ _ _ h => h) (Or.inr ⟨by rfl, rfl⟩) (by assumption) ?_) | fail); simp only [Act.put, sA, sB, sC]
        (first | (refine wpAnyH_take (i := 2) (v := ?_) (by simp only [gA, gB, gC]; rfl) (by kernel_rfl) (by kernel_rfl) (by kernel_rfl) (by exact fun _ _ _ h => h) (Or.inl ⟨by rfl, ?_⟩) (by assumption) ?_; rotate_left; (focus (intro w hSw; (try dsimp only at hSw); go_simp; try with_reducible rfl))) | (refine wpAnyH_take (i := 2) (v := undef) (by simp only [gA, gB, gC]; rfl) (by kernel_rfl) (by kernel_rfl) (by kernel_rfl) (by exact fun _ _ _ h => h) (Or.inr ⟨by rfl, rfl⟩) (by assumption) ?_) | fail); simp only [Act.put, sA, sB, sC]
        (first | (refine wpAnyH_take (i := 3) (v := ?_) (by simp only [gA, gB, gC]; rfl) (by kernel_rfl) (by kernel_rfl) (by kernel_rfl) (by exact fun _ _ _ h => h) (Or.inl ⟨by rfl, ?_⟩) (by assumption) ?_; rotate_left; (focus (intro w hSw; (try dsimp only at hSw); go_simp; try with_reducible rfl))) | (refine wpAnyH_take (i := 3) (v := undef) (by simp only [gA, gB, gC]; rfl) (by kernel_rfl) (by kernel_rfl) (by kernel_rfl) (by exact fun _ _ _ h => h) (Or.inr ⟨by rfl, rfl⟩) (by assumption) ?_) | fail); simp only [Act.put, sA, sB, sC]
        (first | (refine wpAnyH_take (i := 4) (v := _) (by simp only [gA, gB, gC]; rfl) (by kernel_rfl) (by kernel_rfl) (by kernel_rfl) (by exact fun _ _ _ h => h) (yields_at (by rfl) _ rfl _ rfl (lab4 x.n.by_) (fun _ q => q.1) hund rfl hsl) (by assumption) ?_) | (refine wpAnyH_take (i := 4) (v := undef) (by simp only [gA, gB, gC]; rfl) (by kernel_rfl) (by kernel_rfl) (by kernel_rfl) (by exact fun _ _ _ h => h) (Or.inr ⟨by rfl, rfl⟩) (by assumption) ?_) | fail); simp only [Act.put, sA, sB, sC]
        (first | (refine wpAnyH_take (i := 5) (v := _) (by simp only [gA, gB, gC]; rfl) (by kernel_rfl) (by kernel_rfl) (by kernel_rfl) (by exact fun _ _ _ h => h) (yields_row (by rfl) _ rfl w.heap.size rfl (lab4 b) (fun _ q => q.2.range) hund rfl hsl) (by assumption) ?_) | (refine wpAnyH_take (i := 5) (v := undef) (by simp only [gA, gB, gC]; rfl) (by kernel_rfl) (by kernel_rfl) (by kernel_rfl) (by exact fun _ _ _ h => h) (Or.inr ⟨by rfl, rfl⟩) (by assumption) ?_) | fail); simp only [Act.put, sA, sB, sC]
        (first | (refine wpAnyH_take (i := 6) (v := ?_) (by simp only [gA, gB, gC]; rfl) (by kernel_rfl) (by kernel_rfl) (by kernel_rfl) (by exact fun _ _ _ h => h) (Or.inl ⟨by rfl, ?_⟩) (by assumption) ?_; rotate_left; (focus (intro w hSw; (try dsimp only at hSw); go_simp; try with_reducible rfl))) | (refine wpAnyH_take (i := 6) (v := undef) (by simp only [gA, gB, gC]; rfl) (by kernel_rfl) (by kernel_rfl) (by kernel_rfl) (by exact fun _ _ _ h => h) (Or.inr ⟨by rfl, rfl⟩) (by assumption) ?_) | fail); simp only [Act.put, sA, sB, sC]
        refine wpAnyH_done (by kernel_rfl) ?_ _
        go_wp2_with fail
        exact ⟨⟨i + 1, q, by omega, by omega, by simp, rfl, by rw [Nat.add_zero] at hct; exact hct, hBd⟩, by simp [Go.RowKit.intOf]; omega⟩
      · rw [he, if_pos rfl] at hct
        rw [he] at hnq
        replace hct : Aside _ := hct
        go_wp2_with fail
        refine wp_region_held_drew (S := (fun W => CellsAt W ⟨(y.add (i * 16)).block, (y.add (i * 16)).off + 12, none⟩ (lab4 x.n.by_) ∧ BlkL w.heap.size (lab4 b) W)) (by kernel_rfl) (by exact hS) ?_
        intro hHeld
        (first | (refine wpAnyH_take (i := 0) (v := ?_) (by simp only [gA, gB, gC]; rfl) (by kernel_rfl) (by kernel_rfl) (by kernel_rfl) (by exact fun _ _ _ h => h) (Or.inl ⟨by rfl, ?_⟩) (by assumption) ?_; rotate_left; (focus (intro w hSw; (try dsimp only at hSw); go_simp; try with_reducible rfl))) | (refine wpAnyH_take (i := 0) (v := undef) (by simp only [gA, gB, gC]; rfl) (by kernel_rfl) (by kernel_rfl) (by kernel_rfl) (by exact fun _ _ _ h => h) (Or.inr ⟨by rfl, rfl⟩) (by assumption) ?_) | fail); simp only [Act.put, sA, sB, sC]
        (first | (refine wpAnyH_take (i := 1) (v := ?_) (by simp only [gA, gB, gC]; rfl) (by kernel_rfl) (by kernel_rfl) (by kernel_rfl) (by exact fun _ _ _ h => h) (Or.inl ⟨by rfl, ?_⟩) (by assumption) ?_; rotate_left; (focus (intro w hSw; (try dsimp only at hSw); go_simp; try with_reducible rfl))) | (refine wpAnyH_take (i := 1) (v := undef) (by simp only [gA, gB, gC]; rfl) (by kernel_rfl) (by kernel_rfl) (by kernel_rfl) (by exact fun _ _ _ h => h) (Or.inr ⟨by rfl, rfl⟩) (by assumption) ?_) | fail); simp only [Act.put, sA, sB, sC]
        (first | (refine wpAnyH_take (i := 2) (v := ?_) (by simp only [gA, gB, gC]; rfl) (by kernel_rfl) (by kernel_rfl) (by kernel_rfl) (by exact fun _ _ _ h => h) (Or.inl ⟨by rfl, ?_⟩) (by assumption) ?_; rotate_left; (focus (intro w hSw; (try dsimp only at hSw); go_simp; try with_reducible rfl))) | (refine wpAnyH_take (i := 2) (v := undef) (by simp only [gA, gB, gC]; rfl) (by kernel_rfl) (by kernel_rfl) (by kernel_rfl) (by exact fun _ _ _ h => h) (Or.inr ⟨by rfl, rfl⟩) (by assumption) ?_) | fail); simp only [Act.put, sA, sB, sC]
        (first | (refine wpAnyH_take (i := 3) (v := ?_) (by simp only [gA, gB, gC]; rfl) (by kernel_rfl) (by kernel_rfl) (by kernel_rfl) (by exact fun _ _ _ h => h) (Or.inl ⟨by rfl, ?_⟩) (by assumption) ?_; rotate_left; (focus (intro w hSw; (try dsimp only at hSw); go_simp; try with_reducible rfl))) | (refine wpAnyH_take (i := 3) (v := undef) (by simp only [gA, gB, gC]; rfl) (by kernel_rfl) (by kernel_rfl) (by kernel_rfl) (by exact fun _ _ _ h => h) (Or.inr ⟨by rfl, rfl⟩) (by assumption) ?_) | fail); simp only [Act.put, sA, sB, sC]
        (first | (refine wpAnyH_take (i := 4) (v := _) (by simp only [gA, gB, gC]; rfl) (by kernel_rfl) (by kernel_rfl) (by kernel_rfl) (by exact fun _ _ _ h => h) (yields_at (by rfl) _ rfl _ rfl (lab4 x.n.by_) (fun _ q => q.1) hund rfl hsl) (by assumption) ?_) | (refine wpAnyH_take (i := 4) (v := undef) (by simp only [gA, gB, gC]; rfl) (by kernel_rfl) (by kernel_rfl) (by kernel_rfl) (by exact fun _ _ _ h => h) (Or.inr ⟨by rfl, rfl⟩) (by assumption) ?_) | fail); simp only [Act.put, sA, sB, sC]
        (first | (refine wpAnyH_take (i := 5) (v := _) (by simp only [gA, gB, gC]; rfl) (by kernel_rfl) (by kernel_rfl) (by kernel_rfl) (by exact fun _ _ _ h => h) (yields_row (by rfl) _ rfl w.heap.size rfl (lab4 b) (fun _ q => q.2.range) hund rfl hsl) (by assumption) ?_) | (refine wpAnyH_take (i := 5) (v := undef) (by simp only [gA, gB, gC]; rfl) (by kernel_rfl) (by kernel_rfl) (by kernel_rfl) (by exact fun _ _ _ h => h) (Or.inr ⟨by rfl, rfl⟩) (by assumption) ?_) | fail); simp only [Act.put, sA, sB, sC]
        (first | (refine wpAnyH_take (i := 6) (v := ?_) (by simp only [gA, gB, gC]; rfl) (by kernel_rfl) (by kernel_rfl) (by kernel_rfl) (by exact fun _ _ _ h => h) (Or.inl ⟨by rfl, ?_⟩) (by assumption) ?_; rotate_left; (focus (intro w hSw; (try dsimp only at hSw); go_simp; try with_reducible rfl))) | (refine wpAnyH_take (i := 6) (v := undef) (by simp only [gA, gB, gC]; rfl) (by kernel_rfl) (by kernel_rfl) (by kernel_rfl) (by exact fun _ _ _ h => h) (Or.inr ⟨by rfl, rfl⟩) (by assumption) ?_) | fail); simp only [Act.put, sA, sB, sC]
        refine wpAnyH_done (by kernel_rfl) ?_ _
        go_wp2_with fail
        exact ⟨⟨i + 1, q + 1, by omega, by omega, by simp, by simp, hct, hBd⟩, by simp [Go.RowKit.intOf]; omega⟩
    · obtain rfl : i = n := by omega
      have hq2 := hq.out
      rw [List.take_of_length_le (by rw [show (namesP l).length = l.length from by simp [namesP], hn.out]; exact Nat.le_refl _)] at hq2
      obtain rfl : R = q := hR.out.symm.trans hq2
      clear hq2 hq hR
      go_wp2_with fail
      go_ret
      exact ⟨rfl, Below.then hB0 hB⟩
def mayQ (n : Nat) : Int := if 20 ≤ n then 17 else 0
set_option maxHeartbeats 1000000 in
theorem rqmay_any (a : Option Addr) (cap : Nat) (l : List PN) (b : Lab) (hl : l.length ≤ 1000000) (w : World) (h : RowAt 16 PN.cs w a l) :
    Calls Try.prog 13 #[.slice a l.length cap, b.v] w fun e w' => e = .returned (.int .i64 (mayQ (cntBy (namesP l) b))) ∧ Below w.heap.size w w' := by
  have hB0 := alloc_below w (.cells (lab4 b).toArray 25)
  have kn := rqnodes_any a cap l b hl _ (h.below pn_len hB0)
  obtain ⟨R, hR⟩ : ∃ R, cntBy (namesP l) b = R := ⟨_, rfl⟩
  rw [hR] at kn ⊢
  obtain ⟨M, hM⟩ : ∃ M, mayQ R = M := ⟨_, rfl⟩
  rw [hM]
  unfold mayQ at hM
  go_enter Try.func13, Try.ntmps13
  go_wp2_with fail
  refine kn.mono ?_
  rintro e W1 ⟨rfl, hB1⟩
  have hB01 := Below.then hB0 hB1
  by_cases h20 : 20 ≤ R
  · rw [if_pos h20] at hM
    subst hM
    have i1 : (20 : Int) ≤ (R : Int) := by omega
    go_wp2_with fail
    go_ret
    exact ⟨rfl, hB01⟩
  · rw [if_neg h20] at hM
    subst hM
    have i1 : ¬ (20 : Int) ≤ (R : Int) := by omega
    go_wp2_with fail
    go_ret
    exact ⟨rfl, hB01⟩
set_option maxHeartbeats 2000000 in
theorem rqof_any (a : Option Addr) (cap : Nat) (l : List Lab) (b : Lab) (hl : l.length ≤ 1000000) (w : World) (h : RowAt 4 lrow w a l) :
    Calls Try.prog 17 #[.slice a l.length cap, b.v] w fun e w' => e = .returned (.int .i64 ((cntL l b : Nat) : Int)) ∧ Below w.heap.size w w' := by
  have hund := Try.underlying25
  have hsl : (Try.prog.info? 25).map (·.size) = some 4 := by kernel_rfl
  have hb0 := blkl_alloc w (lab4 b).toArray 25
  have hB0 := alloc_below w (.cells (lab4 b).toArray 25)
  obtain ⟨R, hR⟩ : ∃ R, cntL l b = R := ⟨_, rfl⟩
  rw [hR]
  replace hR : Aside (cntL l b = R) := hR
  obtain ⟨n, hn⟩ : ∃ n, l.length = n := ⟨_, rfl⟩
  rw [hn] at hl ⊢
  replace hn : Aside (l.length = n) := hn
  go_enter Try.func17, Try.ntmps17
  go_wp2_with fail
  generalize w.alloc (.cells #[.int .i64 b.s, .int .i64 b.c, .int .i64 b.i, .int .i64 b.k] 25) = W0 at *
  go_loopw [5, 6] (fun t5 t6 wr => ∃ i q : Nat, i ≤ n ∧ q ≤ i ∧ t6 = .int .i64 (i : Int) ∧ t5 = .int .i64 (q : Int) ∧ Aside ((l.take i).countP (fun x => labEq x b) = q) ∧ Below W0.heap.size W0 wr) (fun _ t6 _ => n - (Go.RowKit.intOf t6).toNat)
  case atStart => exact ⟨0, 0, by omega, by omega, rfl, rfl, rfl, Below.refl _ _⟩
  case round =>
    obtain ⟨i, q, hi, hqi, rfl, rfl, hq, hB⟩ := hrel
    by_cases hlt : i < n
    · obtain ⟨x, hx⟩ : ∃ x, l[i]? = some x := ⟨_, List.getElem?_eq_getElem (by rw [hn.out]; exact hlt)⟩
      have hBw := Below.then hB0 hB
      obtain ⟨y, rfl, -⟩ := h i x hx
      have hc : CellsAt wr (y.add (i * 4)) (lab4 x) := (h.below lab_ok.len hBw).at lab_ok.len hx
      have hbw := stab_blk _ _ _ _ hb0 hB
      have hct := countP_take (fun x : Lab => labEq x b) hx
      rw [hq.out] at hct
      have hnq : ∀ W, (binOp .eql 25 (.agg (lab4 x).toArray) (.agg (lab4 b).toArray)).run Try.prog W = .ok (.bool (labEq x b)) W := run_eql_lab x b
      have hS : (fun W => CellsAt W (y.add (i * 4)) (lab4 x) ∧ BlkL w.heap.size (lab4 b) W) wr.drew := ⟨hc, hbw⟩
      have hBd := Below.then hB (Below.refl wr.heap.size wr).drew
      have i1 : (i : Int) < (n : Int) := by omega
      clear hc hbw hx
      cases he : labEq x b
      · rw [he, if_neg (by decide)] at hct
        rw [he] at hnq
        replace hct : Aside _ := hct
        go_wp2_with fail
        refine wp_region_held_drew (S := (fun W => CellsAt W (y.add (i * 4)) (lab4 x) ∧ BlkL w.heap.size (lab4 b) W)) (by kernel_rfl) (by exact hS) ?_
        intro hHeld
        (first | (refine wpAnyH_take (i := 0) (v := ?_) (by simp only [gA, gB, gC]; rfl) (by kernel_rfl) (by kernel_rfl) (by kernel_rfl) (by exact fun _ _ _ h => h) (Or.inl ⟨by rfl, ?_⟩) (by assumption) ?_; rotate_left; (focus (intro w hSw; (try dsimp only at hSw); go_simp; try with_reducible rfl))) | (refine wpAnyH_take (i := 0) (v := undef) (by simp only [gA, gB, gC]; rfl) (by kernel_rfl) (by kernel_rfl) (by kernel_rfl) (by exact fun _ _ _ h => h) (Or.inr ⟨by rfl, rfl⟩) (by assumption) ?_) | fail); simp only [Act.put, sA, sB, sC]
        (first | (refine wpAnyH_take (i := 1) (v := ?_) (by simp only [gA, gB, gC]; rfl) (by kernel_rfl) (by kernel_rfl) (by kernel_rfl) (by exact fun _ _ _ h => h) (Or.inl ⟨by rfl, ?_⟩) (by assumption) ?_; rotate_left; (focus (intro w hSw; (try dsimp only at hSw); go_simp; try with_reducible rfl))) | (refine wpAnyH_take (i := 1) (v := undef) (by simp only [gA, gB, gC]; rfl) (by kernel_rfl) (by kernel_rfl) (by kernel_rfl) (by exact fun _ _ _ h => h) (Or.inr ⟨by rfl, rfl⟩) (by assumption) ?_) | fail); simp only [Act.put, sA, sB, sC]
        (first | (refine wpAnyH_take (i := 2) (v := ?_) (by simp only [gA, gB, gC]; rfl) (by kernel_rfl) (by kernel_rfl) (by kernel_rfl) (by exact fun _ _ _ h => h) (Or.inl ⟨by rfl, ?_⟩) (by assumption) ?_; rotate_left; (focus (intro w hSw; (try dsimp only at hSw); go_simp; try with_reducible rfl))) | (refine wpAnyH_take (i := 2) (v := undef) (by simp only [gA, gB, gC]; rfl) (by kernel_rfl) (by kernel_rfl) (by kernel_rfl) (by exact fun _ _ _ h => h) (Or.inr ⟨by rfl, rfl⟩) (by assumption) ?_) | fail); simp only [Act.put, sA, sB, sC]
        (first | (refine wpAnyH_take (i := 3) (v := _) (by simp only [gA, gB, gC]; rfl) (by kernel_rfl) (by kernel_rfl) (by kernel_rfl) (by exact fun _ _ _ h => h) (yields_at (by rfl) _ rfl _ rfl (lab4 x) (fun _ q => q.1) hund rfl hsl) (by assumption) ?_) | (refine wpAnyH_take (i := 3) (v := undef) (by simp only [gA, gB, gC]; rfl) (by kernel_rfl) (by kernel_rfl) (by kernel_rfl) (by exact fun _ _ _ h => h) (Or.inr ⟨by rfl, rfl⟩) (by assumption) ?_) | fail); simp only [Act.put, sA, sB, sC]
        (first | (refine wpAnyH_take (i := 4) (v := _) (by simp only [gA, gB, gC]; rfl) (by kernel_rfl) (by kernel_rfl) (by kernel_rfl) (by exact fun _ _ _ h => h) (yields_row (by rfl) _ rfl w.heap.size rfl (lab4 b) (fun _ q => q.2.range) hund rfl hsl) (by assumption) ?_) | (refine wpAnyH_take (i := 4) (v := undef) (by simp only [gA, gB, gC]; rfl) (by kernel_rfl) (by kernel_rfl) (by kernel_rfl) (by exact fun _ _ _ h => h) (Or.inr ⟨by rfl, rfl⟩) (by assumption) ?_) | fail); simp only [Act.put, sA, sB, sC]
        (first | (refine wpAnyH_take (i := 5) (v := ?_) (by simp only [gA, gB, gC]; rfl) (by kernel_rfl) (by kernel_rfl) (by kernel_rfl) (by exact fun _ _ _ h => h) (Or.inl ⟨by rfl, ?_⟩) (by assumption) ?_; rotate_left; (focus (intro w hSw; (try dsimp only at hSw); go_simp; try with_reducible rfl))) | (refine wpAnyH_take (i := 5) (v := undef) (by simp only [gA, gB, gC]; rfl) (by kernel_rfl) (by kernel_rfl) (by kernel_rfl) (by exact fun _ _ _ h => h) (Or.inr ⟨by rfl, rfl⟩) (by assumption) ?_) | fail); simp only [Act.put, sA, sB, sC]
        refine wpAnyH_done (by kernel_rfl) ?_ _
        go_wp2_with fail
        exact ⟨⟨i + 1, q, by omega, by omega, by simp, rfl, by rw [Nat.add_zero] at hct; exact hct, hBd⟩, by simp [Go.RowKit.intOf]; omega⟩
      · rw [he, if_pos rfl] at hct
        rw [he] at hnq
        replace hct : Aside _ := hct
        go_wp2_with fail
        refine wp_region_held_drew (S := (fun W => CellsAt W (y.add (i * 4)) (lab4 x) ∧ BlkL w.heap.size (lab4 b) W)) (by kernel_rfl) (by exact hS) ?_
        intro hHeld
        (first | (refine wpAnyH_take (i := 0) (v := ?_) (by simp only [gA, gB, gC]; rfl) (by kernel_rfl) (by kernel_rfl) (by kernel_rfl) (by exact fun _ _ _ h => h) (Or.inl ⟨by rfl, ?_⟩) (by assumption) ?_; rotate_left; (focus (intro w hSw; (try dsimp only at hSw); go_simp; try with_reducible rfl))) | (refine wpAnyH_take (i := 0) (v := undef) (by simp only [gA, gB, gC]; rfl) (by kernel_rfl) (by kernel_rfl) (by kernel_rfl) (by exact fun _ _ _ h => h) (Or.inr ⟨by rfl, rfl⟩) (by assumption) ?_) | fail); simp only [Act.put, sA, sB, sC]
        (first | (refine wpAnyH_take (i := 1) (v := ?_) (by simp only [gA, gB, gC]; rfl) (by kernel_rfl) (by kernel_rfl) (by kernel_rfl) (by exact fun _ _ _ h => h) (Or.inl ⟨by rfl, ?_⟩) (by assumption) ?_; rotate_left; (focus (intro w hSw; (try dsimp only at hSw); go_simp; try with_reducible rfl))) | (refine wpAnyH_take (i := 1) (v := undef) (by simp only [gA, gB, gC]; rfl) (by kernel_rfl) (by kernel_rfl) (by kernel_rfl) (by exact fun _ _ _ h => h) (Or.inr ⟨by rfl, rfl⟩) (by assumption) ?_) | fail); simp only [Act.put, sA, sB, sC]
        (first | (refine wpAnyH_take (i := 2) (v := ?_) (by simp only [gA, gB, gC]; rfl) (by kernel_rfl) (by kernel_rfl) (by kernel_rfl) (by exact fun _ _ _ h => h) (Or.inl ⟨by rfl, ?_⟩) (by assumption) ?_; rotate_left; (focus (intro w hSw; (try dsimp only at hSw); go_simp; try with_reducible rfl))) | (refine wpAnyH_take (i := 2) (v := undef) (by simp only [gA, gB, gC]; rfl) (by kernel_rfl) (by kernel_rfl) (by kernel_rfl) (by exact fun _ _ _ h => h) (Or.inr ⟨by rfl, rfl⟩) (by assumption) ?_) | fail); simp only [Act.put, sA, sB, sC]
        (first | (refine wpAnyH_take (i := 3) (v := _) (by simp only [gA, gB, gC]; rfl) (by kernel_rfl) (by kernel_rfl) (by kernel_rfl) (by exact fun _ _ _ h => h) (yields_at (by rfl) _ rfl _ rfl (lab4 x) (fun _ q => q.1) hund rfl hsl) (by assumption) ?_) | (refine wpAnyH_take (i := 3) (v := undef) (by simp only [gA, gB, gC]; rfl) (by kernel_rfl) (by kernel_rfl) (by kernel_rfl) (by exact fun _ _ _ h => h) (Or.inr ⟨by rfl, rfl⟩) (by assumption) ?_) | fail); simp only [Act.put, sA, sB, sC]
        (first | (refine wpAnyH_take (i := 4) (v := _) (by simp only [gA, gB, gC]; rfl) (by kernel_rfl) (by kernel_rfl) (by kernel_rfl) (by exact fun _ _ _ h => h) (yields_row (by rfl) _ rfl w.heap.size rfl (lab4 b) (fun _ q => q.2.range) hund rfl hsl) (by assumption) ?_) | (refine wpAnyH_take (i := 4) (v := undef) (by simp only [gA, gB, gC]; rfl) (by kernel_rfl) (by kernel_rfl) (by kernel_rfl) (by exact fun _ _ _ h => h) (Or.inr ⟨by rfl, rfl⟩) (by assumption) ?_) | fail); simp only [Act.put, sA, sB, sC]
        (first | (refine wpAnyH_take (i := 5) (v := ?_) (by simp only [gA, gB, gC]; rfl) (by kernel_rfl) (by kernel_rfl) (by kernel_rfl) (by exact fun _ _ _ h => h) (Or.inl ⟨by rfl, ?_⟩) (by assumption) ?_; rotate_left; (focus (intro w hSw; (try dsimp only at hSw); go_simp; try with_reducible rfl))) | (refine wpAnyH_take (i := 5) (v := undef) (by simp only [gA, gB, gC]; rfl) (by kernel_rfl) (by kernel_rfl) (by kernel_rfl) (by exact fun _ _ _ h => h) (Or.inr ⟨by rfl, rfl⟩) (by assumption) ?_) | fail); simp only [Act.put, sA, sB, sC]
        refine wpAnyH_done (by kernel_rfl) ?_ _
        go_wp2_with fail
        exact ⟨⟨i + 1, q + 1, by omega, by omega, by simp, by simp, hct, hBd⟩, by simp [Go.RowKit.intOf]; omega⟩
    · obtain rfl : i = n := by omega
      have hq2 := hq.out
      rw [List.take_of_length_le (by rw [hn.out]; exact Nat.le_refl _)] at hq2
      obtain rfl : R = q := hR.out.symm.trans hq2
      clear hq2 hq hR
      go_wp2_with fail
      go_ret
      exact ⟨rfl, Below.then hB0 hB⟩
/-- What Add does behind its loop: an element is laid between the first k and the others. -/
theorem ins_tail {α : Type} {e t : TypeId} {sz : Nat} {f : α → List Value} (hE : ElemOk e t sz f) (ht : Try.prog.elem t = e) (W : World) (a1 : Option Addr) (n c1 k : Nat) (m : List α) (x : α) (hn : m.length = n) (hk : k ≤ n) (hle : n ≤ c1) (hno : a1 = none → c1 = 0) (hn1 : n ≤ 100000) (hr : RowAt sz f W a1 m) :
    ∃ A1 A2 v2 W2 v3 W3 v4 W4, (∀ X, (Instr.slice t (.slice a1 n c1) none (some (.int .i64 (k : Int))) none).run Try.prog X = .ok (.slice A1 k c1) X) ∧ (∀ X, (Instr.slice t (.slice a1 n c1) (some (.int .i64 (k : Int))) none none).run Try.prog X = .ok (.slice A2 (n - k) (c1 - k)) X) ∧
      (Builtin.append_ #[t, t] t #[.slice none 0 0, .slice A1 k c1]).run Try.prog W = .ok v2 W2 ∧ (Builtin.append_ #[t, t] t #[v2, .slice (some ⟨W2.heap.size, 0, none⟩) 1 1]).run Try.prog (W2.alloc (.cells (f x).toArray e)) = .ok v3 W3 ∧
      (Builtin.append_ #[t, t] t #[v3, .slice A2 (n - k) (c1 - k)]).run Try.prog W3 = .ok v4 W4 ∧ Below W.heap.size W W2 ∧ OwnR e sz f W4 W.heap.size v4 (m.take k ++ x :: m.drop k) ∧ Below W.heap.size W W4 := by
  obtain ⟨A1, hs1, hn1', hr1'⟩ := rows_take hE ht a1 n c1 k hk hle
  obtain ⟨A2, hs2, hn2', hr2'⟩ := rows_drop hE ht a1 n c1 k hk hle
  have hlt3 : (m.take k).length = k := by rw [List.length_take, hn]; omega
  have hlt4 : (m.drop k).length = n - k := by rw [List.length_drop, hn]
  have ho0 : OwnR e sz f W W.heap.size (.slice none 0 0) [] := OwnR.nil _ _ _ _ _
  obtain ⟨v2, W2, hap2, ho2, hg2⟩ := OwnR.append_any hE ho0 (Nat.le_refl _) A1 k c1 (m.take k) hlt3 (hr1' _ _ hr) (fun q => by have := hno (hn1' q); omega) (by simp) (by omega)
  rw [List.nil_append] at ho2
  have hb2 := ho0.grew_below (Nat.le_refl _) hg2
  obtain ⟨v3, W3, hap3, ho3, hg3⟩ := OwnR.push hE ho2 hb2.size x (f x).toArray rfl e (by rw [hlt3]; omega)
  have hb3 := ho2.grew_below hb2.size hg3
  have hB3 := hb2.trans hb3
  obtain ⟨v4, W4, hap4, ho4, hg4⟩ := OwnR.append_any hE ho3 hB3.size A2 (n - k) (c1 - k) (m.drop k) hlt4 (hr2' _ _ hn (hr.below hE.len hB3)) (fun q => by have := hno (hn2' q); omega) (by simp [hlt3]; omega) (by omega)
  have hb4 := ho3.grew_below hB3.size hg4
  refine ⟨A1, A2, v2, W2, v3, W3, v4, W4, hs1, hs2, hap2, hap3, hap4, hb2, ?_, hB3.trans hb4⟩
  simpa using ho4
set_option maxRecDepth 8000 in
set_option maxHeartbeats 4000000 in
theorem rqadd_any (a : Option Addr) (cap : Nat) (l : List Lab) (x : Lab) (hl : l.length ≤ 100000) (hcap : l.length ≤ cap) (hno : a = none → cap = 0) (w : World) (h : RowAt 4 lrow w a l) :
    Calls Try.prog 15 #[.slice a l.length cap, x.v] w fun e w' => ∃ v, e = .returned v ∧ OwnR 25 4 lrow w' w.heap.size v (addL l x) ∧ Below w.heap.size w w' := by
  have hund := Try.underlying25
  have hsl : (Try.prog.info? 25).map (·.size) = some 4 := by kernel_rfl
  have hb0 := blkl_alloc w (lab4 x).toArray 25
  have hB0 := alloc_below w (.cells (lab4 x).toArray 25)
  obtain ⟨R, hR⟩ : ∃ R, addL l x = R := ⟨_, rfl⟩
  rw [hR]
  replace hR : Aside (addL l x = R) := hR
  obtain ⟨n, hn⟩ : ∃ n, l.length = n := ⟨_, rfl⟩
  rw [hn] at hl hcap ⊢
  replace hn : Aside (l.length = n) := hn
  go_enter Try.func15, Try.ntmps15
  go_upto_block 0 with fail
  generalize w.alloc (.cells #[.int .i64 x.s, .int .i64 x.c, .int .i64 x.i, .int .i64 x.k] 25) = W0 at *
  go_cut [5] from 7 (fun s5 wc => ∃ k : Nat, s5 = .int .i64 (k : Int) ∧ k ≤ n ∧ Aside (R = l.take k ++ x :: l.drop k) ∧ Below W0.heap.size W0 wc)
  case first =>
    go_wp2_with fail
    go_loopw [5] (fun t5 wr => ∃ k : Nat, k ≤ n ∧ t5 = .int .i64 (k : Int) ∧ Aside (∀ y ∈ l.take k, (!lessL x y) = true) ∧ Below W0.heap.size W0 wr) (fun t5 _ => n - (Go.RowKit.intOf t5).toNat)
    case atStart => exact ⟨0, by omega, rfl, fun y hy => by simp at hy, Below.refl _ _⟩
    case round =>
      obtain ⟨k, hk, rfl, hall, hB⟩ := hrel
      have hBd := Below.then hB (Below.refl wr.heap.size wr).drew
      by_cases hlt : k < n
      · obtain ⟨z, hz⟩ : ∃ z, l[k]? = some z := ⟨_, List.getElem?_eq_getElem (by rw [hn.out]; exact hlt)⟩
        have hBw := Below.then hB0 hB
        obtain ⟨y, rfl, -⟩ := h k z hz
        have hc : CellsAt wr (y.add (k * 4)) (lab4 z) := (h.below lab_ok.len hBw).at lab_ok.len hz
        have hbw := stab_blk _ _ _ _ hb0 hB
        have hS : (fun W => CellsAt W (y.add (k * 4)) (lab4 z) ∧ BlkL w.heap.size (lab4 x) W) wr.drew := ⟨hc, hbw⟩
        have i1 : (k : Int) < (n : Int) := by omega
        have kl := rlless_any x z
        clear hc hbw
        cases he : lessL x z
        · rw [he] at kl
          have hall2 : Aside (∀ y ∈ l.take (k + 1), (!lessL x y) = true) := fun q hq => by
            rw [List.take_add_one, hz] at hq
            rcases List.mem_append.1 hq with hq | hq
            · exact hall.out q hq
            · simp at hq
              subst hq
              rw [he]
              rfl
          clear hall hz
          go_wp2_with fail
          refine wp_region_held_drew (S := (fun W => CellsAt W (y.add (k * 4)) (lab4 z) ∧ BlkL w.heap.size (lab4 x) W)) (by kernel_rfl) (by first | exact hS1 | exact hS) ?_
          intro hHeld
          (first | (refine wpAnyH_take (i := 0) (v := ?_) (by simp only [gA, gB, gC]; rfl) (by kernel_rfl) (by kernel_rfl) (by kernel_rfl) (by exact fun _ _ _ h => h) (Or.inl ⟨by rfl, ?_⟩) (by assumption) ?_; rotate_left; (focus (intro w hSw; (try dsimp only at hSw); go_simp; try with_reducible rfl))) | (refine wpAnyH_take (i := 0) (v := undef) (by simp only [gA, gB, gC]; rfl) (by kernel_rfl) (by kernel_rfl) (by kernel_rfl) (by exact fun _ _ _ h => h) (Or.inr ⟨by rfl, rfl⟩) (by assumption) ?_) | fail); simp only [Act.put, sA, sB, sC, Bool.not_false, Bool.not_true]
          (first | (refine wpAnyH_take (i := 1) (v := ?_) (by simp only [gA, gB, gC]; rfl) (by kernel_rfl) (by kernel_rfl) (by kernel_rfl) (by exact fun _ _ _ h => h) (Or.inl ⟨by rfl, ?_⟩) (by assumption) ?_; rotate_left; (focus (intro w hSw; (try dsimp only at hSw); go_simp; try with_reducible rfl))) | (refine wpAnyH_take (i := 1) (v := undef) (by simp only [gA, gB, gC]; rfl) (by kernel_rfl) (by kernel_rfl) (by kernel_rfl) (by exact fun _ _ _ h => h) (Or.inr ⟨by rfl, rfl⟩) (by assumption) ?_) | fail); simp only [Act.put, sA, sB, sC, Bool.not_false, Bool.not_true]
          (first | (refine wpAnyH_take (i := 2) (v := ?_) (by simp only [gA, gB, gC]; rfl) (by kernel_rfl) (by kernel_rfl) (by kernel_rfl) (by exact fun _ _ _ h => h) (Or.inl ⟨by rfl, ?_⟩) (by assumption) ?_; rotate_left; (focus (intro w hSw; (try dsimp only at hSw); go_simp; try with_reducible rfl))) | (refine wpAnyH_take (i := 2) (v := undef) (by simp only [gA, gB, gC]; rfl) (by kernel_rfl) (by kernel_rfl) (by kernel_rfl) (by exact fun _ _ _ h => h) (Or.inr ⟨by rfl, rfl⟩) (by assumption) ?_) | fail); simp only [Act.put, sA, sB, sC, Bool.not_false, Bool.not_true]
          (first | (refine wpAnyH_take (i := 3) (v := ?_) (by simp only [gA, gB, gC]; rfl) (by kernel_rfl) (by kernel_rfl) (by kernel_rfl) (by exact fun _ _ _ h => h) (Or.inl ⟨by rfl, ?_⟩) (by assumption) ?_; rotate_left; (focus (intro w hSw; (try dsimp only at hSw); go_simp; try with_reducible rfl))) | (refine wpAnyH_take (i := 3) (v := undef) (by simp only [gA, gB, gC]; rfl) (by kernel_rfl) (by kernel_rfl) (by kernel_rfl) (by exact fun _ _ _ h => h) (Or.inr ⟨by rfl, rfl⟩) (by assumption) ?_) | fail); simp only [Act.put, sA, sB, sC, Bool.not_false, Bool.not_true]
          (first | (refine wpAnyH_take (i := 4) (v := ?_) (by simp only [gA, gB, gC]; rfl) (by kernel_rfl) (by kernel_rfl) (by kernel_rfl) (by exact fun _ _ _ h => h) (Or.inl ⟨by rfl, ?_⟩) (by assumption) ?_; rotate_left; (focus (intro w hSw; (try dsimp only at hSw); go_simp; try with_reducible rfl))) | (refine wpAnyH_take (i := 4) (v := undef) (by simp only [gA, gB, gC]; rfl) (by kernel_rfl) (by kernel_rfl) (by kernel_rfl) (by exact fun _ _ _ h => h) (Or.inr ⟨by rfl, rfl⟩) (by assumption) ?_) | fail); simp only [Act.put, sA, sB, sC, Bool.not_false, Bool.not_true]
          (first | (refine wpAnyH_take (i := 5) (v := _) (by simp only [gA, gB, gC]; rfl) (by kernel_rfl) (by kernel_rfl) (by kernel_rfl) (by exact fun _ _ _ h => h) (yields_row (by rfl) _ rfl w.heap.size rfl (lab4 x) (fun _ q => q.2.range) hund rfl hsl) (by assumption) ?_) | (refine wpAnyH_take (i := 5) (v := undef) (by simp only [gA, gB, gC]; rfl) (by kernel_rfl) (by kernel_rfl) (by kernel_rfl) (by exact fun _ _ _ h => h) (Or.inr ⟨by rfl, rfl⟩) (by assumption) ?_) | fail); simp only [Act.put, sA, sB, sC, Bool.not_false, Bool.not_true]
          (first | (refine wpAnyH_take (i := 6) (v := ?_) (by simp only [gA, gB, gC]; rfl) (by kernel_rfl) (by kernel_rfl) (by kernel_rfl) (by exact fun _ _ _ h => h) (Or.inl ⟨by rfl, ?_⟩) (by assumption) ?_; rotate_left; (focus (intro w hSw; (try dsimp only at hSw); go_simp; try with_reducible rfl))) | (refine wpAnyH_take (i := 6) (v := undef) (by simp only [gA, gB, gC]; rfl) (by kernel_rfl) (by kernel_rfl) (by kernel_rfl) (by exact fun _ _ _ h => h) (Or.inr ⟨by rfl, rfl⟩) (by assumption) ?_) | fail); simp only [Act.put, sA, sB, sC, Bool.not_false, Bool.not_true]
          (first | (refine wpAnyH_take (i := 7) (v := ?_) (by simp only [gA, gB, gC]; rfl) (by kernel_rfl) (by kernel_rfl) (by kernel_rfl) (by exact fun _ _ _ h => h) (Or.inl ⟨by rfl, ?_⟩) (by assumption) ?_; rotate_left; (focus (intro w hSw; (try dsimp only at hSw); go_simp; try with_reducible rfl))) | (refine wpAnyH_take (i := 7) (v := undef) (by simp only [gA, gB, gC]; rfl) (by kernel_rfl) (by kernel_rfl) (by kernel_rfl) (by exact fun _ _ _ h => h) (Or.inr ⟨by rfl, rfl⟩) (by assumption) ?_) | fail); simp only [Act.put, sA, sB, sC, Bool.not_false, Bool.not_true]
          (first | (refine wpAnyH_take (i := 8) (v := ?_) (by simp only [gA, gB, gC]; rfl) (by kernel_rfl) (by kernel_rfl) (by kernel_rfl) (by exact fun _ _ _ h => h) (Or.inl ⟨by rfl, ?_⟩) (by assumption) ?_; rotate_left; (focus (intro w hSw; (try dsimp only at hSw); go_simp; try with_reducible rfl))) | (refine wpAnyH_take (i := 8) (v := undef) (by simp only [gA, gB, gC]; rfl) (by kernel_rfl) (by kernel_rfl) (by kernel_rfl) (by exact fun _ _ _ h => h) (Or.inr ⟨by rfl, rfl⟩) (by assumption) ?_) | fail); simp only [Act.put, sA, sB, sC, Bool.not_false, Bool.not_true]
          (first | (refine wpAnyH_take (i := 9) (v := _) (by simp only [gA, gB, gC]; rfl) (by kernel_rfl) (by kernel_rfl) (by kernel_rfl) (by exact fun _ _ _ h => h) (yields_at (by rfl) _ rfl _ rfl (lab4 z) (fun _ q => q.1) hund rfl hsl) (by assumption) ?_) | (refine wpAnyH_take (i := 9) (v := undef) (by simp only [gA, gB, gC]; rfl) (by kernel_rfl) (by kernel_rfl) (by kernel_rfl) (by exact fun _ _ _ h => h) (Or.inr ⟨by rfl, rfl⟩) (by assumption) ?_) | fail); simp only [Act.put, sA, sB, sC, Bool.not_false, Bool.not_true]
          first | (refine wpAnyH_take (i := 10) (v := undef) (by simp only [gA, gB, gC]; rfl) (by kernel_rfl) (by kernel_rfl) (by kernel_rfl) (by exact fun _ _ _ h => h) (Or.inr ⟨by rfl, rfl⟩) (by assumption) ?_; simp only [Act.put, sA, sB, sC, Bool.not_false, Bool.not_true]) | (refine wpAnyH_ready (rs := [10]) (by kernel_rfl) (by simp) ?_; refine AllReadyH.cons (by simp only [gA, gB, gC]; rfl) (fun K hK => ?_) AllReadyH.nil; go_simp; (first | (go_at_call 20; refine (kl _).mono ?_; rintro e w1 ⟨rfl, hb1⟩; have hS1 : (fun W => CellsAt W (y.add (k * 4)) (lab4 z) ∧ BlkL w.heap.size (lab4 x) W) w1 := ⟨hS.1.below hb1, stab_blk _ _ _ _ hS.2 hb1⟩)); refine hK.out _ _ (by first | exact hS1 | exact hS) ?_; clear hHeld hK; intro hHeld; (try simp only [Act.put, sA, sB, sC, Bool.not_false, Bool.not_true])) | fail
          (first | (refine wpAnyH_take (i := 11) (v := ?_) (by simp only [gA, gB, gC]; rfl) (by kernel_rfl) (by kernel_rfl) (by kernel_rfl) (by exact fun _ _ _ h => h) (Or.inl ⟨by rfl, ?_⟩) (by assumption) ?_; rotate_left; (focus (intro w hSw; (try dsimp only at hSw); go_simp; try with_reducible rfl))) | (refine wpAnyH_take (i := 11) (v := undef) (by simp only [gA, gB, gC]; rfl) (by kernel_rfl) (by kernel_rfl) (by kernel_rfl) (by exact fun _ _ _ h => h) (Or.inr ⟨by rfl, rfl⟩) (by assumption) ?_) | fail); simp only [Act.put, sA, sB, sC, Bool.not_false, Bool.not_true]
          (first | (refine wpAnyH_take (i := 12) (v := ?_) (by simp only [gA, gB, gC]; rfl) (by kernel_rfl) (by kernel_rfl) (by kernel_rfl) (by exact fun _ _ _ h => h) (Or.inl ⟨by rfl, ?_⟩) (by assumption) ?_; rotate_left; (focus (intro w hSw; (try dsimp only at hSw); go_simp; try with_reducible rfl))) | (refine wpAnyH_take (i := 12) (v := undef) (by simp only [gA, gB, gC]; rfl) (by kernel_rfl) (by kernel_rfl) (by kernel_rfl) (by exact fun _ _ _ h => h) (Or.inr ⟨by rfl, rfl⟩) (by assumption) ?_) | fail); simp only [Act.put, sA, sB, sC, Bool.not_false, Bool.not_true]
          refine wpAnyH_done (by kernel_rfl) ?_ _
          have hB1 := Below.then hBd hb1
          clear hS hS1
          go_wp2_with fail
          exact ⟨⟨k + 1, by omega, by simp, hall2, hB1⟩, by simp [Go.RowKit.intOf]; omega⟩
        · rw [he] at kl
          have hR2 : Aside (R = l.take k ++ x :: l.drop k) := by
            have h1 := tw_take (f := fun y => !lessL x y) l k hall.out (fun q hq => by
              obtain rfl : z = q := Option.some.inj (hz.symm.trans hq)
              rw [he]
              rfl)
            have h2 := hR.out
            unfold addL at h2
            rw [h1.1, h1.2] at h2
            exact h2.symm
          clear hall hz hR
          go_wp2_with fail
          refine wp_region_held_drew (S := (fun W => CellsAt W (y.add (k * 4)) (lab4 z) ∧ BlkL w.heap.size (lab4 x) W)) (by kernel_rfl) (by first | exact hS1 | exact hS) ?_
          intro hHeld
          (first | (refine wpAnyH_take (i := 0) (v := ?_) (by simp only [gA, gB, gC]; rfl) (by kernel_rfl) (by kernel_rfl) (by kernel_rfl) (by exact fun _ _ _ h => h) (Or.inl ⟨by rfl, ?_⟩) (by assumption) ?_; rotate_left; (focus (intro w hSw; (try dsimp only at hSw); go_simp; try with_reducible rfl))) | (refine wpAnyH_take (i := 0) (v := undef) (by simp only [gA, gB, gC]; rfl) (by kernel_rfl) (by kernel_rfl) (by kernel_rfl) (by exact fun _ _ _ h => h) (Or.inr ⟨by rfl, rfl⟩) (by assumption) ?_) | fail); simp only [Act.put, sA, sB, sC, Bool.not_false, Bool.not_true]
          (first | (refine wpAnyH_take (i := 1) (v := ?_) (by simp only [gA, gB, gC]; rfl) (by kernel_rfl) (by kernel_rfl) (by kernel_rfl) (by exact fun _ _ _ h => h) (Or.inl ⟨by rfl, ?_⟩) (by assumption) ?_; rotate_left; (focus (intro w hSw; (try dsimp only at hSw); go_simp; try with_reducible rfl))) | (refine wpAnyH_take (i := 1) (v := undef) (by simp only [gA, gB, gC]; rfl) (by kernel_rfl) (by kernel_rfl) (by kernel_rfl) (by exact fun _ _ _ h => h) (Or.inr ⟨by rfl, rfl⟩) (by assumption) ?_) | fail); simp only [Act.put, sA, sB, sC, Bool.not_false, Bool.not_true]
          (first | (refine wpAnyH_take (i := 2) (v := ?_) (by simp only [gA, gB, gC]; rfl) (by kernel_rfl) (by kernel_rfl) (by kernel_rfl) (by exact fun _ _ _ h => h) (Or.inl ⟨by rfl, ?_⟩) (by assumption) ?_; rotate_left; (focus (intro w hSw; (try dsimp only at hSw); go_simp; try with_reducible rfl))) | (refine wpAnyH_take (i := 2) (v := undef) (by simp only [gA, gB, gC]; rfl) (by kernel_rfl) (by kernel_rfl) (by kernel_rfl) (by exact fun _ _ _ h => h) (Or.inr ⟨by rfl, rfl⟩) (by assumption) ?_) | fail); simp only [Act.put, sA, sB, sC, Bool.not_false, Bool.not_true]
          (first | (refine wpAnyH_take (i := 3) (v := ?_) (by simp only [gA, gB, gC]; rfl) (by kernel_rfl) (by kernel_rfl) (by kernel_rfl) (by exact fun _ _ _ h => h) (Or.inl ⟨by rfl, ?_⟩) (by assumption) ?_; rotate_left; (focus (intro w hSw; (try dsimp only at hSw); go_simp; try with_reducible rfl))) | (refine wpAnyH_take (i := 3) (v := undef) (by simp only [gA, gB, gC]; rfl) (by kernel_rfl) (by kernel_rfl) (by kernel_rfl) (by exact fun _ _ _ h => h) (Or.inr ⟨by rfl, rfl⟩) (by assumption) ?_) | fail); simp only [Act.put, sA, sB, sC, Bool.not_false, Bool.not_true]
          (first | (refine wpAnyH_take (i := 4) (v := ?_) (by simp only [gA, gB, gC]; rfl) (by kernel_rfl) (by kernel_rfl) (by kernel_rfl) (by exact fun _ _ _ h => h) (Or.inl ⟨by rfl, ?_⟩) (by assumption) ?_; rotate_left; (focus (intro w hSw; (try dsimp only at hSw); go_simp; try with_reducible rfl))) | (refine wpAnyH_take (i := 4) (v := undef) (by simp only [gA, gB, gC]; rfl) (by kernel_rfl) (by kernel_rfl) (by kernel_rfl) (by exact fun _ _ _ h => h) (Or.inr ⟨by rfl, rfl⟩) (by assumption) ?_) | fail); simp only [Act.put, sA, sB, sC, Bool.not_false, Bool.not_true]
          (first | (refine wpAnyH_take (i := 5) (v := _) (by simp only [gA, gB, gC]; rfl) (by kernel_rfl) (by kernel_rfl) (by kernel_rfl) (by exact fun _ _ _ h => h) (yields_row (by rfl) _ rfl w.heap.size rfl (lab4 x) (fun _ q => q.2.range) hund rfl hsl) (by assumption) ?_) | (refine wpAnyH_take (i := 5) (v := undef) (by simp only [gA, gB, gC]; rfl) (by kernel_rfl) (by kernel_rfl) (by kernel_rfl) (by exact fun _ _ _ h => h) (Or.inr ⟨by rfl, rfl⟩) (by assumption) ?_) | fail); simp only [Act.put, sA, sB, sC, Bool.not_false, Bool.not_true]
          (first | (refine wpAnyH_take (i := 6) (v := ?_) (by simp only [gA, gB, gC]; rfl) (by kernel_rfl) (by kernel_rfl) (by kernel_rfl) (by exact fun _ _ _ h => h) (Or.inl ⟨by rfl, ?_⟩) (by assumption) ?_; rotate_left; (focus (intro w hSw; (try dsimp only at hSw); go_simp; try with_reducible rfl))) | (refine wpAnyH_take (i := 6) (v := undef) (by simp only [gA, gB, gC]; rfl) (by kernel_rfl) (by kernel_rfl) (by kernel_rfl) (by exact fun _ _ _ h => h) (Or.inr ⟨by rfl, rfl⟩) (by assumption) ?_) | fail); simp only [Act.put, sA, sB, sC, Bool.not_false, Bool.not_true]
          (first | (refine wpAnyH_take (i := 7) (v := ?_) (by simp only [gA, gB, gC]; rfl) (by kernel_rfl) (by kernel_rfl) (by kernel_rfl) (by exact fun _ _ _ h => h) (Or.inl ⟨by rfl, ?_⟩) (by assumption) ?_; rotate_left; (focus (intro w hSw; (try dsimp only at hSw); go_simp; try with_reducible rfl))) | (refine wpAnyH_take (i := 7) (v := undef) (by simp only [gA, gB, gC]; rfl) (by kernel_rfl) (by kernel_rfl) (by kernel_rfl) (by exact fun _ _ _ h => h) (Or.inr ⟨by rfl, rfl⟩) (by assumption) ?_) | fail); simp only [Act.put, sA, sB, sC, Bool.not_false, Bool.not_true]
          (first | (refine wpAnyH_take (i := 8) (v := ?_) (by simp only [gA, gB, gC]; rfl) (by kernel_rfl) (by kernel_rfl) (by kernel_rfl) (by exact fun _ _ _ h => h) (Or.inl ⟨by rfl, ?_⟩) (by assumption) ?_; rotate_left; (focus (intro w hSw; (try dsimp only at hSw); go_simp; try with_reducible rfl))) | (refine wpAnyH_take (i := 8) (v := undef) (by simp only [gA, gB, gC]; rfl) (by kernel_rfl) (by kernel_rfl) (by kernel_rfl) (by exact fun _ _ _ h => h) (Or.inr ⟨by rfl, rfl⟩) (by assumption) ?_) | fail); simp only [Act.put, sA, sB, sC, Bool.not_false, Bool.not_true]
          (first | (refine wpAnyH_take (i := 9) (v := _) (by simp only [gA, gB, gC]; rfl) (by kernel_rfl) (by kernel_rfl) (by kernel_rfl) (by exact fun _ _ _ h => h) (yields_at (by rfl) _ rfl _ rfl (lab4 z) (fun _ q => q.1) hund rfl hsl) (by assumption) ?_) | (refine wpAnyH_take (i := 9) (v := undef) (by simp only [gA, gB, gC]; rfl) (by kernel_rfl) (by kernel_rfl) (by kernel_rfl) (by exact fun _ _ _ h => h) (Or.inr ⟨by rfl, rfl⟩) (by assumption) ?_) | fail); simp only [Act.put, sA, sB, sC, Bool.not_false, Bool.not_true]
          first | (refine wpAnyH_take (i := 10) (v := undef) (by simp only [gA, gB, gC]; rfl) (by kernel_rfl) (by kernel_rfl) (by kernel_rfl) (by exact fun _ _ _ h => h) (Or.inr ⟨by rfl, rfl⟩) (by assumption) ?_; simp only [Act.put, sA, sB, sC, Bool.not_false, Bool.not_true]) | (refine wpAnyH_ready (rs := [10]) (by kernel_rfl) (by simp) ?_; refine AllReadyH.cons (by simp only [gA, gB, gC]; rfl) (fun K hK => ?_) AllReadyH.nil; go_simp; (first | (go_at_call 20; refine (kl _).mono ?_; rintro e w1 ⟨rfl, hb1⟩; have hS1 : (fun W => CellsAt W (y.add (k * 4)) (lab4 z) ∧ BlkL w.heap.size (lab4 x) W) w1 := ⟨hS.1.below hb1, stab_blk _ _ _ _ hS.2 hb1⟩)); refine hK.out _ _ (by first | exact hS1 | exact hS) ?_; clear hHeld hK; intro hHeld; (try simp only [Act.put, sA, sB, sC, Bool.not_false, Bool.not_true])) | fail
          (first | (refine wpAnyH_take (i := 11) (v := ?_) (by simp only [gA, gB, gC]; rfl) (by kernel_rfl) (by kernel_rfl) (by kernel_rfl) (by exact fun _ _ _ h => h) (Or.inl ⟨by rfl, ?_⟩) (by assumption) ?_; rotate_left; (focus (intro w hSw; (try dsimp only at hSw); go_simp; try with_reducible rfl))) | (refine wpAnyH_take (i := 11) (v := undef) (by simp only [gA, gB, gC]; rfl) (by kernel_rfl) (by kernel_rfl) (by kernel_rfl) (by exact fun _ _ _ h => h) (Or.inr ⟨by rfl, rfl⟩) (by assumption) ?_) | fail); simp only [Act.put, sA, sB, sC, Bool.not_false, Bool.not_true]
          (first | (refine wpAnyH_take (i := 12) (v := ?_) (by simp only [gA, gB, gC]; rfl) (by kernel_rfl) (by kernel_rfl) (by kernel_rfl) (by exact fun _ _ _ h => h) (Or.inl ⟨by rfl, ?_⟩) (by assumption) ?_; rotate_left; (focus (intro w hSw; (try dsimp only at hSw); go_simp; try with_reducible rfl))) | (refine wpAnyH_take (i := 12) (v := undef) (by simp only [gA, gB, gC]; rfl) (by kernel_rfl) (by kernel_rfl) (by kernel_rfl) (by exact fun _ _ _ h => h) (Or.inr ⟨by rfl, rfl⟩) (by assumption) ?_) | fail); simp only [Act.put, sA, sB, sC, Bool.not_false, Bool.not_true]
          refine wpAnyH_done (by kernel_rfl) ?_ _
          have hB1 := Below.then hBd hb1
          clear hS hS1
          go_wp2_with fail
          go_meet
          exact ⟨k, rfl, by omega, hR2, hB1⟩
      · obtain rfl : k = n := by omega
        have hR2 : Aside (R = l.take k ++ x :: l.drop k) := by
          have h1 := tw_take (f := fun y => !lessL x y) l k hall.out (fun q hq => by
            have := (List.getElem?_eq_some_iff.1 hq).1
            rw [hn.out] at this
            omega)
          have h2 := hR.out
          unfold addL at h2
          rw [h1.1, h1.2] at h2
          exact h2.symm
        have hS : (fun W => BlkL w.heap.size (lab4 x) W) wr.drew := stab_blk _ _ _ _ hb0 hBd
        have i1 : ¬ (k : Int) < (k : Int) := by omega
        have hd1 : decide ((k : Int) < (k : Int)) = false := decide_eq_false i1
        clear hall hR
        go_wp2_with fail
        refine wp_region_held_drew (S := (fun W => BlkL w.heap.size (lab4 x) W)) (by kernel_rfl) (by exact hS) ?_
        intro hHeld
        (first | (refine wpAnyH_take (i := 0) (v := ?_) (by simp only [gA, gB, gC]; rfl) (by kernel_rfl) (by kernel_rfl) (by kernel_rfl) (by exact fun _ _ _ h => h) (Or.inl ⟨by rfl, ?_⟩) (by assumption) ?_; rotate_left; (focus (intro w hSw; (try dsimp only at hSw); go_simp; try with_reducible rfl))) | (refine wpAnyH_take (i := 0) (v := undef) (by simp only [gA, gB, gC]; rfl) (by kernel_rfl) (by kernel_rfl) (by kernel_rfl) (by exact fun _ _ _ h => h) (Or.inr ⟨by rfl, rfl⟩) (by assumption) ?_) | fail); simp only [Act.put, sA, sB, sC, hd1, Int.lt_irrefl, decide_false, Nat.lt_irrefl]
        (first | (refine wpAnyH_take (i := 1) (v := ?_) (by simp only [gA, gB, gC]; rfl) (by kernel_rfl) (by kernel_rfl) (by kernel_rfl) (by exact fun _ _ _ h => h) (Or.inl ⟨by rfl, ?_⟩) (by assumption) ?_; rotate_left; (focus (intro w hSw; (try dsimp only at hSw); go_simp; try with_reducible rfl))) | (refine wpAnyH_take (i := 1) (v := undef) (by simp only [gA, gB, gC]; rfl) (by kernel_rfl) (by kernel_rfl) (by kernel_rfl) (by exact fun _ _ _ h => h) (Or.inr ⟨by rfl, rfl⟩) (by assumption) ?_) | fail); simp only [Act.put, sA, sB, sC, hd1, Int.lt_irrefl, decide_false, Nat.lt_irrefl]
        (first | (refine wpAnyH_take (i := 2) (v := ?_) (by simp only [gA, gB, gC]; rfl) (by kernel_rfl) (by kernel_rfl) (by kernel_rfl) (by exact fun _ _ _ h => h) (Or.inl ⟨by rfl, ?_⟩) (by assumption) ?_; rotate_left; (focus (intro w hSw; (try dsimp only at hSw); go_simp; try with_reducible rfl))) | (refine wpAnyH_take (i := 2) (v := undef) (by simp only [gA, gB, gC]; rfl) (by kernel_rfl) (by kernel_rfl) (by kernel_rfl) (by exact fun _ _ _ h => h) (Or.inr ⟨by rfl, rfl⟩) (by assumption) ?_) | fail); simp only [Act.put, sA, sB, sC, hd1, Int.lt_irrefl, decide_false, Nat.lt_irrefl]
        (first | (refine wpAnyH_take (i := 3) (v := ?_) (by simp only [gA, gB, gC]; rfl) (by kernel_rfl) (by kernel_rfl) (by kernel_rfl) (by exact fun _ _ _ h => h) (Or.inl ⟨by rfl, ?_⟩) (by assumption) ?_; rotate_left; (focus (intro w hSw; (try dsimp only at hSw); go_simp; try with_reducible rfl))) | (refine wpAnyH_take (i := 3) (v := undef) (by simp only [gA, gB, gC]; rfl) (by kernel_rfl) (by kernel_rfl) (by kernel_rfl) (by exact fun _ _ _ h => h) (Or.inr ⟨by rfl, rfl⟩) (by assumption) ?_) | fail); simp only [Act.put, sA, sB, sC, hd1, Int.lt_irrefl, decide_false, Nat.lt_irrefl]
        (first | (refine wpAnyH_take (i := 4) (v := ?_) (by simp only [gA, gB, gC]; rfl) (by kernel_rfl) (by kernel_rfl) (by kernel_rfl) (by exact fun _ _ _ h => h) (Or.inl ⟨by rfl, ?_⟩) (by assumption) ?_; rotate_left; (focus (intro w hSw; (try dsimp only at hSw); go_simp; try with_reducible rfl))) | (refine wpAnyH_take (i := 4) (v := undef) (by simp only [gA, gB, gC]; rfl) (by kernel_rfl) (by kernel_rfl) (by kernel_rfl) (by exact fun _ _ _ h => h) (Or.inr ⟨by rfl, rfl⟩) (by assumption) ?_) | fail); simp only [Act.put, sA, sB, sC, hd1, Int.lt_irrefl, decide_false, Nat.lt_irrefl]
        (first | (refine wpAnyH_take (i := 5) (v := ?_) (by simp only [gA, gB, gC]; rfl) (by kernel_rfl) (by kernel_rfl) (by kernel_rfl) (by exact fun _ _ _ h => h) (Or.inl ⟨by rfl, ?_⟩) (by assumption) ?_; rotate_left; (focus (intro w hSw; (try dsimp only at hSw); go_simp; try with_reducible rfl))) | (refine wpAnyH_take (i := 5) (v := undef) (by simp only [gA, gB, gC]; rfl) (by kernel_rfl) (by kernel_rfl) (by kernel_rfl) (by exact fun _ _ _ h => h) (Or.inr ⟨by rfl, rfl⟩) (by assumption) ?_) | fail); simp only [Act.put, sA, sB, sC, hd1, Int.lt_irrefl, decide_false, Nat.lt_irrefl]
        (first | (refine wpAnyH_take (i := 6) (v := ?_) (by simp only [gA, gB, gC]; rfl) (by kernel_rfl) (by kernel_rfl) (by kernel_rfl) (by exact fun _ _ _ h => h) (Or.inl ⟨by rfl, ?_⟩) (by assumption) ?_; rotate_left; (focus (intro w hSw; (try dsimp only at hSw); go_simp; try with_reducible rfl))) | (refine wpAnyH_take (i := 6) (v := undef) (by simp only [gA, gB, gC]; rfl) (by kernel_rfl) (by kernel_rfl) (by kernel_rfl) (by exact fun _ _ _ h => h) (Or.inr ⟨by rfl, rfl⟩) (by assumption) ?_) | fail); simp only [Act.put, sA, sB, sC, hd1, Int.lt_irrefl, decide_false, Nat.lt_irrefl]
        (first | (refine wpAnyH_take (i := 7) (v := ?_) (by simp only [gA, gB, gC]; rfl) (by kernel_rfl) (by kernel_rfl) (by kernel_rfl) (by exact fun _ _ _ h => h) (Or.inl ⟨by rfl, ?_⟩) (by assumption) ?_; rotate_left; (focus (intro w hSw; (try dsimp only at hSw); go_simp; try with_reducible rfl))) | (refine wpAnyH_take (i := 7) (v := undef) (by simp only [gA, gB, gC]; rfl) (by kernel_rfl) (by kernel_rfl) (by kernel_rfl) (by exact fun _ _ _ h => h) (Or.inr ⟨by rfl, rfl⟩) (by assumption) ?_) | fail); simp only [Act.put, sA, sB, sC, hd1, Int.lt_irrefl, decide_false, Nat.lt_irrefl]
        (first | (refine wpAnyH_take (i := 8) (v := ?_) (by simp only [gA, gB, gC]; rfl) (by kernel_rfl) (by kernel_rfl) (by kernel_rfl) (by exact fun _ _ _ h => h) (Or.inl ⟨by rfl, ?_⟩) (by assumption) ?_; rotate_left; (focus (intro w hSw; (try dsimp only at hSw); go_simp; try with_reducible rfl))) | (refine wpAnyH_take (i := 8) (v := undef) (by simp only [gA, gB, gC]; rfl) (by kernel_rfl) (by kernel_rfl) (by kernel_rfl) (by exact fun _ _ _ h => h) (Or.inr ⟨by rfl, rfl⟩) (by assumption) ?_) | fail); simp only [Act.put, sA, sB, sC, hd1, Int.lt_irrefl, decide_false, Nat.lt_irrefl]
        (first | (refine wpAnyH_take (i := 9) (v := ?_) (by simp only [gA, gB, gC]; rfl) (by kernel_rfl) (by kernel_rfl) (by kernel_rfl) (by exact fun _ _ _ h => h) (Or.inl ⟨by rfl, ?_⟩) (by assumption) ?_; rotate_left; (focus (intro w hSw; (try dsimp only at hSw); go_simp; try with_reducible rfl))) | (refine wpAnyH_take (i := 9) (v := undef) (by simp only [gA, gB, gC]; rfl) (by kernel_rfl) (by kernel_rfl) (by kernel_rfl) (by exact fun _ _ _ h => h) (Or.inr ⟨by rfl, rfl⟩) (by assumption) ?_) | fail); simp only [Act.put, sA, sB, sC, hd1, Int.lt_irrefl, decide_false, Nat.lt_irrefl]
        first | (refine wpAnyH_take (i := 10) (v := undef) (by simp only [gA, gB, gC]; rfl) (by kernel_rfl) (by kernel_rfl) (by kernel_rfl) (by exact fun _ _ _ h => h) (Or.inr ⟨by rfl, rfl⟩) (by assumption) ?_; simp only [Act.put, sA, sB, sC, hd1, Int.lt_irrefl, decide_false, Nat.lt_irrefl]) | (refine wpAnyH_ready (rs := [10]) (by kernel_rfl) (by simp) ?_; refine AllReadyH.cons (by simp only [gA, gB, gC]; rfl) (fun K hK => ?_) AllReadyH.nil; go_simp; (first | (fail)); refine hK.out _ _ (by exact hS) ?_; clear hHeld hK; intro hHeld; (try simp only [Act.put, sA, sB, sC, hd1, Int.lt_irrefl, decide_false, Nat.lt_irrefl])) | fail
        (first | (refine wpAnyH_take (i := 11) (v := ?_) (by simp only [gA, gB, gC]; rfl) (by kernel_rfl) (by kernel_rfl) (by kernel_rfl) (by exact fun _ _ _ h => h) (Or.inl ⟨by rfl, ?_⟩) (by assumption) ?_; rotate_left; (focus (intro w hSw; (try dsimp only at hSw); go_simp; try with_reducible rfl))) | (refine wpAnyH_take (i := 11) (v := undef) (by simp only [gA, gB, gC]; rfl) (by kernel_rfl) (by kernel_rfl) (by kernel_rfl) (by exact fun _ _ _ h => h) (Or.inr ⟨by rfl, rfl⟩) (by assumption) ?_) | fail); simp only [Act.put, sA, sB, sC, hd1, Int.lt_irrefl, decide_false, Nat.lt_irrefl]
        (first | (refine wpAnyH_take (i := 12) (v := ?_) (by simp only [gA, gB, gC]; rfl) (by kernel_rfl) (by kernel_rfl) (by kernel_rfl) (by exact fun _ _ _ h => h) (Or.inl ⟨by rfl, ?_⟩) (by assumption) ?_; rotate_left; (focus (intro w hSw; (try dsimp only at hSw); go_simp; try with_reducible rfl))) | (refine wpAnyH_take (i := 12) (v := undef) (by simp only [gA, gB, gC]; rfl) (by kernel_rfl) (by kernel_rfl) (by kernel_rfl) (by exact fun _ _ _ h => h) (Or.inr ⟨by rfl, rfl⟩) (by assumption) ?_) | fail); simp only [Act.put, sA, sB, sC, hd1, Int.lt_irrefl, decide_false, Nat.lt_irrefl]
        refine wpAnyH_done (by kernel_rfl) ?_ _
        clear hS
        go_wp2_with fail
        go_meet
        exact ⟨k, rfl, by omega, hR2, hBd⟩
  case rest =>
    obtain ⟨k, rfl, hk, hR2, hB⟩ := hcut
    have hBw := Below.then hB0 hB
    have hbw := (stab_blk _ _ _ _ hb0 hB)
    obtain ⟨A1, A2, v2, W2, v3, W3, v4, W4, hs1, hs2, hap2, hap3, hap4, hb2, ho4, hB4⟩ := ins_tail lab_ok (by kernel_rfl) wc a n cap k l x hn.out hk hcap hno (by omega) (h.below lab_ok.len hBw)
    have hrg := (stab_blk _ _ _ _ hbw hb2).range
    replace hap3 : (Builtin.append_ #[22, 22] 22 #[v2, .slice (some ⟨W2.heap.size, 0, none⟩) 1 1]).run Try.prog (W2.alloc (.cells (lab4 x).toArray 25)) = .ok v3 W3 := hap3
    rw [← hR2.out] at ho4
    clear hR hR2 hbw hb0
    go_wp2_with (first | (refine wpList_append rfl _ _ rfl rfl rfl rfl hap2 ?_) | (refine wpList_load_row rfl _ rfl w.heap.size rfl (lab4 x) hrg hund rfl hsl ?_) | (refine wpList_build1 lab_ok (by decide) rfl _ rfl (lab4 x) rfl rfl ?_) | (refine wpList_append rfl _ _ rfl rfl rfl rfl hap3 ?_) | (refine wpList_append rfl _ _ rfl rfl rfl rfl hap4 ?_) | fail)
    go_ret
    exact ⟨_, rfl, ho4.lower hBw.size, Below.then hBw hB4⟩
end Go.Proofs.Ytajondkpdgiolaa

/-! COUNTS, whatever they are made of: what the laws ask of them; the laws' small functions. -/
namespace Go.Proofs.Ytajondkpdgiolaa
open Go.RowKit
set_option maxRecDepth 8000
set_option linter.unusedSimpArgs false
set_option linter.unusedVariables false

/-- Nothing has turned but blocks of S. -/
structure Turned (S : List Nat) (w w' : World) : Prop where
  os : w'.os = w.os
  tape : w'.tape = w.tape
  output : w'.output = w.output
  size : w.heap.size ≤ w'.heap.size
  block : ∀ k, k < w.heap.size → k ∉ S → w'.heap[k]? = w.heap[k]?
theorem Turned.below {S : List Nat} {w w' : World} (h : Turned S w w') {B : Nat} (hS : ∀ k ∈ S, B ≤ k) (hB : B ≤ w.heap.size) : Below B w w' :=
  ⟨h.os, h.tape, h.output, h.size, fun k hk => h.block k (by omega) fun q => by have := hS k q; omega⟩
theorem Turned.blk {S : List Nat} {w w' : World} (h : Turned S w w') {g : Nat} {cs : List Value} (hb : BlkL g cs w) (hg : g ∉ S) : BlkL g cs w' := ⟨hb.1.same (h.block g hb.2 hg), Nat.lt_of_lt_of_le hb.2 h.size⟩
theorem Turned.own {α : Type} {S : List Nat} {w w' : World} (h : Turned S w w') {e : TypeId} {sz : Nat} {f : α → List Value} {b : Nat} {v : Value} {l : List α} (ho : OwnR e sz f w b v l) (hb : ∀ k ∈ S, k < b) : OwnR e sz f w' b v l :=
  ho.keep fun k hk => h.block k (ho.lt hk).2 fun q => by have := hb k q; have := (ho.lt hk).1; omega
theorem Turned.own' {α : Type} {S : List Nat} {w w' : World} (h : Turned S w w') {e : TypeId} {sz : Nat} {f : α → List Value} {b : Nat} {v : Value} {l : List α} (ho : OwnR e sz f w b v l) (hb : ∀ k, v.ownBlock = some k → k ∉ S) : OwnR e sz f w' b v l :=
  ho.keep fun k hk => h.block k (ho.lt hk).2 (hb k hk)
theorem Turned.then {S : List Nat} {w w' w'' : World} (h : Turned S w w') (k : Below w'.heap.size w' w'') : Turned S w w'' :=
  ⟨k.os.trans h.os, k.tape.trans h.tape, k.output.trans h.output, Nat.le_trans h.size k.size, fun j hj hn => (k.block j (Nat.lt_of_lt_of_le hj h.size)).trans (h.block j hj hn)⟩
/-- Q w S p ls: at p lie counts of the labels ls, in the blocks S. -/
structure Cnts3 (Q : World → List Nat → Addr → List Lab → Prop) : Prop where
  keep : ∀ {w w' : World} {S : List Nat} {p : Addr} {ls : List Lab}, Q w S p ls → (∀ k ∈ S, w'.heap[k]? = w.heap[k]?) → Q w' S p ls
  lt : ∀ {w : World} {S : List Nat} {p : Addr} {ls : List Lab}, Q w S p ls → ∀ k ∈ S, k < w.heap.size
  new : ∀ w, Calls Try.prog 14 #[] w fun e w' => ∃ p S, e = .returned (.pointer (some p)) ∧ Q w' S p [] ∧ (∀ k ∈ S, w.heap.size ≤ k) ∧ Below w.heap.size w w'
  add : ∀ {S p ls} (x : Lab) (_ : GL x) (w : World), Q w S p ls → ls.length ≤ 1000 → Calls Try.prog 16 #[.pointer (some p), x.v] w fun e w' => e = .returned (.int .i64 ((cntL ls x + 1 : Nat) : Int)) ∧ ∃ S', Q w' S' p (x :: ls) ∧ Turned S w w' ∧ ∀ k ∈ S', k ∈ S ∨ w.heap.size ≤ k
  of_ : ∀ {S p ls} (x : Lab) (_ : GL x) (w : World), Q w S p ls → Calls Try.prog 18 #[.pointer (some p), x.v] w fun e w' => e = .returned (.int .i64 ((cntL ls x : Nat) : Int)) ∧ Below w.heap.size w w'
structure Cnts (Q : World → List Nat → Addr → List Lab → Prop) : Prop extends Cnts3 Q where
  all : ∀ {S p ls} (w : World), Q w S p ls → ls.length ≤ 900 → Calls Try.prog 19 #[.pointer (some p)] w fun e w' => ∃ v r, e = .returned v ∧ OwnR 25 4 lrow w' w.heap.size v r ∧ SortL r ∧ (∀ x, cntL r x = cntL ls x) ∧ Below w.heap.size w w'
theorem Cnts3.below {Q : World → List Nat → Addr → List Lab → Prop} (C : Cnts3 Q) {w w' : World} {S : List Nat} {p : Addr} {ls : List Lab} (h : Q w S p ls) (b : Below w.heap.size w w') : Q w' S p ls := C.keep h fun k hk => b.block k (C.lt h k hk)
set_option maxRecDepth 8000 in
set_option maxHeartbeats 2000000 in
theorem qknown_any {Q : World → List Nat → Addr → List Lab → Prop} (C : Cnts3 Q) (w : World) : Calls Try.prog 7 #[] w fun e w' => e = .returned (.bool true) ∧ Below w.heap.size w w' := by
  have g0 : GL ⟨0, 0, 0, 0⟩ := by constructor <;> decide
  have g1 : GL ⟨1, 0, 0, 0⟩ := by constructor <;> decide
  have e2 : cntL [⟨0, 0, 0, 0⟩] ⟨0, 0, 0, 0⟩ = 1 := by decide +kernel
  have e3 : cntL [⟨0, 0, 0, 0⟩, ⟨0, 0, 0, 0⟩] ⟨1, 0, 0, 0⟩ = 0 := by decide +kernel
  go_enter Try.func7, Try.ntmps7
  go_wp2_with fail
  refine (C.new w).mono ?_
  rintro e W1 ⟨p, S, rfl, hq1, hS, hB1⟩
  go_wp2_with fail
  refine (C.add ⟨0, 0, 0, 0⟩ g0 W1 hq1 (by simp)).mono ?_
  rintro e W2 ⟨rfl, S2, hq2, hT2, hS2⟩
  have hB2 := hB1.trans (hT2.below hS hB1.size)
  replace hS2 : ∀ k ∈ S2, w.heap.size ≤ k := fun k hk => (hS2 k hk).elim (hS k) (Nat.le_trans hB1.size)
  have ka := C.add ⟨0, 0, 0, 0⟩ g0 W2 hq2 (by simp)
  rw [e2] at ka
  go_wp2_with fail
  refine ka.mono ?_
  rintro e W3 ⟨rfl, S3, hq3, hT3, -⟩
  have hB3 := hB2.trans (hT3.below hS2 hB2.size)
  have ko := C.of_ ⟨1, 0, 0, 0⟩ g1 W3 hq3
  rw [e3] at ko
  clear ka
  go_wp2_with fail
  refine ko.mono ?_
  rintro e W4 ⟨rfl, hB4⟩
  go_wp2_with fail
  go_ret
  exact ⟨rfl, Below.then hB3 hB4⟩
set_option maxHeartbeats 400000 in
theorem w12_any (k m : Int) (h0 : 0 < m) (h1 : m < 1000000) (w : World) :
    Calls Try.prog 21 #[.int .i64 k, .int .i64 m] w fun e w' => e = .returned (.int .i64 (k % m)) ∧ w' = w := by
  have b1 := Int.lt_tmod_of_pos k h0
  have b2 := Int.tmod_lt_of_pos k h0
  have hm0 : ¬ m = 0 := by omega
  have hm1 : ¬ m = -1 := by omega
  by_cases hn : k.tmod m < 0
  · have e1 : k % m = k.tmod m + m := by
      rw [Int.tmod_eq_emod] at hn ⊢
      split at hn
      · have := Int.emod_nonneg k (by omega : m ≠ 0); omega
      · rename_i hc; rw [if_neg hc]; rw [Int.natAbs_of_nonneg (by omega)]; omega
    rw [e1]
    clear e1
    go_enter Try.func21, Try.ntmps21
    go_wp2
    go_ret
    exact ⟨rfl, rfl⟩
  · have e1 : k % m = k.tmod m := by
      rw [Int.tmod_eq_emod] at hn ⊢
      split
      · simp
      · rename_i hc
        rw [if_neg hc] at hn
        have := Int.emod_lt_of_pos k h0
        rw [Int.natAbs_of_nonneg (by omega)] at *
        omega
    rw [e1]
    clear e1
    go_enter Try.func21, Try.ntmps21
    go_wp2
    go_ret
    exact ⟨rfl, rfl⟩
end Go.Proofs.Ytajondkpdgiolaa

/-! SORTS by a closure that may lay blocks of its own (sort.Slice's family): what is asked of the row, of less and of swap; insertion sort. For every stage from the twelfth on. -/
namespace Go.Proofs.Ytajondkpdgiolaa
open Go.RowKit
set_option maxRecDepth 8000
set_option linter.unusedSimpArgs false
set_option linter.unusedVariables false

/-- S w d: in the world w the row holds d. Less answers lt, and turns nothing that lay there; swap turns the row's block alone. -/
structure Srt {α : Type} [Inhabited α] (n g sf : Nat) (lb sb : Array Value) (lt : α → α → Bool) (blk : Nat) (S : World → Array α → Prop) : Prop where
  enter : ∀ args w, (callFunc g args).run Try.prog w = .ok (.enter g args) w
  less : ∀ (w : World) (d : Array α) (i j : Nat), S w d → i < n → j < n → Calls Try.prog g (#[.int .i64 (i : Int), .int .i64 (j : Int)] ++ lb) w fun e w' => e = .returned (.bool (lt d[i]! d[j]!)) ∧ Below w.heap.size w w'
  swap : ∀ (w : World) (d : Array α) (i j : Nat), S w d → i < n → j < n → ∃ w', (callFunc sf (#[.int .i64 (i : Int), .int .i64 (j : Int)] ++ sb)).run Try.prog w = .ok (.value (.tuple #[])) w' ∧ S w' (Sort.swp d i j) ∧ Turned [blk] w w'
  keep : ∀ {w w' : World} {d : Array α}, S w d → Below w.heap.size w w' → S w' d
  lt : ∀ {w : World} {d : Array α}, S w d → blk < w.heap.size
  size : ∀ {w : World} {d : Array α}, S w d → d.size = n
  few : n < 1000000
  brk : ∀ (w : World) (d : Array α) (a b : Nat), S w d → a ≤ b → b ≤ n → Calls Try.prog 62 #[.agg #[.func (.func g) #[] lb, .func (.func sf) #[] sb], .int .i64 (a : Int), .int .i64 (b : Int)] w fun e w' => e = .returned (.tuple #[]) ∧ S w' (Sort.breakPatterns d a b) ∧ Turned [blk] w w'
  far : ∃ B, (∀ {w : World} {d : Array α}, S w d → B ≤ w.heap.size) ∧ ∀ {w w' : World} {d : Array α}, S w d → (∀ k, k < B → w'.heap[k]? = w.heap[k]?) → S w' d
theorem turned_refl (S : List Nat) (w : World) : Turned S w w := ⟨rfl, rfl, rfl, Nat.le_refl _, fun _ _ _ => rfl⟩
theorem turned_below {S : List Nat} {w w' : World} (h : Below w.heap.size w w') : Turned S w w' := ⟨h.os, h.tape, h.output, h.size, fun k hk _ => h.block k hk⟩
theorem Turned.trans {S : List Nat} {w w' w'' : World} (h : Turned S w w') (k : Turned S w' w'') : Turned S w w'' :=
  ⟨k.os.trans h.os, k.tape.trans h.tape, k.output.trans h.output, Nat.le_trans h.size k.size, fun j hj hn => (k.block j (Nat.lt_of_lt_of_le hj h.size) hn).trans (h.block j hj hn)⟩
/-- What a function of the family holds: its row, its box of less and swap, and that nothing else has turned. -/
structure Sr {α : Type} (S : World → Array α → Prop) (blk bx : Nat) (lv sv : Value) (w w' : World) (d : Array α) : Prop where
  row : S w' d
  box : BlkL bx [lv, sv] w'
  ne : bx ≠ blk
  turned : Turned [blk] w w'
section
variable {α : Type} [Inhabited α] {n g sf blk bx : Nat} {lb sb : Array Value} {lt : α → α → Bool} {S : World → Array α → Prop} {lv sv : Value} {w w1 w2 : World} {d : Array α}
theorem Sr.below (h : Sr S blk bx lv sv w w1 d) (K : Srt n g sf lb sb lt blk S) (hb : Below w1.heap.size w1 w2) : Sr S blk bx lv sv w w2 d :=
  ⟨K.keep h.row hb, stab_blk _ _ _ _ h.box hb, h.ne, h.turned.trans (turned_below hb)⟩
theorem Sr.swapped {α : Type} {blk bx : Nat} {S : World → Array α → Prop} {lv sv : Value} {w w1 w2 : World} {d : Array α} (h : Sr S blk bx lv sv w w1 d) {d' : Array α} (hS : S w2 d') (ht : Turned [blk] w1 w2) : Sr S blk bx lv sv w w2 d' :=
  ⟨hS, ht.blk h.box (by simpa using h.ne), h.ne, h.turned.trans ht⟩
theorem Sr.begin (K : Srt n g sf lb sb lt blk S) (hS : S w d) (T : TypeId) : Sr S blk w.heap.size lv sv w (w.alloc (.cells #[lv, sv] T)) d :=
  have hb := alloc_below w (.cells #[lv, sv] T)
  ⟨K.keep hS hb, blkl_alloc w #[lv, sv] T, fun e => by have := K.lt hS; omega, turned_below hb⟩
theorem Srt.lessAt (K : Srt n g sf lb sb lt blk S) {i j : Int} (p q : Nat) (hi : i = (p : Int)) (hj : j = (q : Int)) (hp : p < n) (hq : q < n) (hS : S w d) {v : Bool} (hv : lt d[p]! d[q]! = v) :
    Calls Try.prog g (#[.int .i64 i, .int .i64 j] ++ lb) w fun e w' => e = .returned (.bool v) ∧ Below w.heap.size w w' := by
  subst hi hj hv
  exact K.less w d p q hS hp hq
theorem Srt.swapAt (K : Srt n g sf lb sb lt blk S) {i j : Int} (p q : Nat) (hi : i = (p : Int)) (hj : j = (q : Int)) (hp : p < n) (hq : q < n) (h : Sr S blk bx lv sv w1 w d) :
    ∃ w', (callFunc sf (#[.int .i64 i, .int .i64 j] ++ sb)).run Try.prog w = .ok (.value (.tuple #[])) w' ∧ Sr S blk bx lv sv w1 w' (Sort.swp d p q) := by
  subst hi hj
  obtain ⟨w', h1, h2, h3⟩ := K.swap w d p q h.row hp hq
  exact ⟨w', h1, h.swapped h2 h3⟩
theorem Sr.c0 {α : Type} {blk bx : Nat} {S : World → Array α → Prop} {lv sv : Value} {w w1 : World} {d : Array α} (h : Sr S blk bx lv sv w w1 d) : w1.cell? ⟨bx, 0, none⟩ = some lv := (h.box.1 0 lv rfl).1
theorem Sr.c1 {α : Type} {blk bx : Nat} {S : World → Array α → Prop} {lv sv : Value} {w w1 : World} {d : Array α} (h : Sr S blk bx lv sv w w1 d) : w1.cell? ⟨bx, 1, none⟩ = some sv := (h.box.1 1 sv rfl).1
end
set_option maxRecDepth 8000 in
set_option maxHeartbeats 4000000 in
theorem sins_any {α : Type} [Inhabited α] {n g sf blk : Nat} {lb sb : Array Value} {lt : α → α → Bool} {S : World → Array α → Prop} (K : Srt n g sf lb sb lt blk S) (a b : Nat) (d : Array α) (w : World) (hS : S w d) (hab : a ≤ b) (hb : b ≤ n) :
    Calls Try.prog 60 #[.agg #[.func (.func g) #[] lb, .func (.func sf) #[] sb], .int .i64 (a : Int), .int .i64 (b : Int)] w fun e w' => e = .returned (.tuple #[]) ∧ S w' (Sort.insertionSort lt d a b) ∧ Turned [blk] w w' := by
  have eg := K.enter
  have hn := K.few
  obtain ⟨R, hR⟩ : ∃ R, Sort.insertionSort lt d a b = R := ⟨_, rfl⟩
  rw [hR]
  replace hR : Aside (Sort.insOuter lt a b (a + 1) d = R) := hR
  have h0 := Sr.begin (lv := .func (.func g) #[] lb) (sv := .func (.func sf) #[] sb) K hS 96
  go_enter Try.func60, Try.ntmps60
  go_wp2_with fail
  generalize w.alloc (.cells #[.func (.func g) #[] lb, .func (.func sf) #[] sb] 96) = W0 at *
  go_loopw [6] (fun t wr => ∃ (i : Nat) (dk : Array α), t = .int .i64 (i : Int) ∧ a < i ∧ i ≤ b + 1 ∧ Sr S blk w.heap.size (.func (.func g) #[] lb) (.func (.func sf) #[] sb) w wr dk ∧ Aside (Sort.insOuter lt a b i dk = R)) (fun t _ => b + 1 - (Go.RowKit.intOf t).toNat)
  case atStart => exact ⟨a + 1, d, by simp, by omega, by omega, h0, hR⟩
  case round =>
    clear h0 hR
    obtain ⟨i, dk, rfl, hai, hib, h, hO⟩ := hrel
    by_cases hlt : i < b
    · replace hO : Aside (Sort.insOuter lt a b (i + 1) (Sort.insInner lt a i dk) = R) := by
        have := hO.out
        rwa [insOuter_go _ _ _ _ _ hlt] at this
      have i1 : (i : Int) < (b : Int) := by omega
      go_wp2_with fail
      go_loopw [7] (fun t wr => ∃ (j : Nat) (dj : Array α), t = .int .i64 (j : Int) ∧ a ≤ j ∧ j ≤ i ∧ Sr S blk w.heap.size (.func (.func g) #[] lb) (.func (.func sf) #[] sb) w wr dj ∧ Aside (Sort.insInner lt a j dj = Sort.insInner lt a i dk)) (fun t _ => (Go.RowKit.intOf t).toNat)
      case atStart => exact ⟨i, dk, rfl, by omega, by omega, h, rfl⟩
      case round =>
        clear h
        obtain ⟨j, dj, rfl, haj, hji, h, hI⟩ := hrel
        have c0 := h.c0
        have c1 := h.c1
        by_cases hja : a < j
        · have i2 : (a : Int) < (j : Int) := by omega
          have kl := K.less wr dj j (j - 1) h.row (by omega) (by omega)
          have ej : (((j - 1 : Nat)) : Int) = (j : Int) - 1 := by omega
          rw [ej] at kl
          cases hlv : lt dj[j]! dj[j - 1]!
          · rw [hlv] at kl
            replace hI : Aside (dj = Sort.insInner lt a i dk) := by
              have := hI.out
              rwa [insInner_stop _ _ _ _ (.inr hlv)] at this
            clear hlv
            go_wp2_with (go_at_fn g; refine kl.mono ?_; rintro e w1 ⟨rfl, hb1⟩)
            exact ⟨⟨i + 1, dj, by simp, by omega, by omega, h.below K hb1, by rw [hI.out]; exact hO⟩, by simp [Go.RowKit.intOf]; omega⟩
          · rw [hlv] at kl
            replace hI : Aside (Sort.insInner lt a (j - 1) (Sort.swp dj j (j - 1)) = Sort.insInner lt a i dk) := by
              have := hI.out
              rwa [insInner_go _ _ _ _ hja hlv] at this
            clear hlv
            go_wp2_with (go_at_fn g; refine kl.mono ?_; rintro e w1 ⟨rfl, hb1⟩; have h1 := h.below K hb1; have c1' := h1.c1; obtain ⟨w2, hsw, hS2, hT2⟩ := K.swap w1 dj j (j - 1) h1.row (by omega) (by omega); rw [ej] at hsw; have h2 := h1.swapped hS2 hT2)
            exact ⟨⟨j - 1, _, by rw [ej], by omega, by omega, h2, hI⟩, by simp [Go.RowKit.intOf]; omega⟩
        · replace hI : Aside (dj = Sort.insInner lt a i dk) := by
            have := hI.out
            rwa [insInner_stop _ _ _ _ (.inl (by omega))] at this
          have i2 : ¬ (a : Int) < (j : Int) := by omega
          go_wp2_with fail
          exact ⟨⟨i + 1, dj, by simp, by omega, by omega, h, by rw [hI.out]; exact hO⟩, by simp [Go.RowKit.intOf]; omega⟩
    · have hR2 := hO.out
      rw [insOuter_stop _ _ _ _ _ hlt] at hR2
      subst hR2
      clear hO
      have i1 : ¬ (i : Int) < (b : Int) := by omega
      go_wp2_with fail
      go_end0
      exact ⟨rfl, h.row, h.turned⟩
end Go.Proofs.Ytajondkpdgiolaa

/-! SORTS by a closure: siftDown, heapSort. Written by mk_srt.py. -/
namespace Go.Proofs.Ytajondkpdgiolaa
open Go.RowKit
set_option maxRecDepth 8000
set_option linter.unusedSimpArgs false
set_option linter.unusedVariables false

section
variable {α : Type} [Inhabited α] {lt : α → α → Bool} {hi F root c : Nat} {d : Array α}
theorem sift_end (h : hi ≤ 2 * root + 1) : Sort.siftDown lt hi F root d = d := by rw [Sort.siftDown, dif_pos h]
theorem sift_right (h0 : 2 * root + 2 < hi) (h1 : lt d[F + (2 * root + 1)]! d[F + (2 * root + 1) + 1]! = true) : Sort.siftDown lt hi F root d = if lt d[F + root]! d[F + (2 * root + 2)]! = true then Sort.siftDown lt hi F (2 * root + 2) (Sort.swp d (F + root) (F + (2 * root + 2))) else d := by
  rw [Sort.siftDown, dif_neg (by omega), if_pos (by simp [h1]; omega)]
  cases h : lt d[F + root]! d[F + (2 * root + 2)]!
  · simp
  · simp [h0]
theorem sift_left (h0 : 2 * root + 1 < hi) (h1 : ¬ 2 * root + 2 < hi ∨ lt d[F + (2 * root + 1)]! d[F + (2 * root + 1) + 1]! = false) : Sort.siftDown lt hi F root d = if lt d[F + root]! d[F + (2 * root + 1)]! = true then Sort.siftDown lt hi F (2 * root + 1) (Sort.swp d (F + root) (F + (2 * root + 1))) else d := by
  rw [Sort.siftDown, dif_neg (by omega), if_neg (by rcases h1 with h | h <;> simp [h])]
  cases h : lt d[F + root]! d[F + (2 * root + 1)]!
  · simp
  · simp
end
set_option maxRecDepth 8000 in
set_option maxHeartbeats 8000000 in
theorem ssift_any {α : Type} [Inhabited α] {n g sf blk : Nat} {lb sb : Array Value} {lt : α → α → Bool} {S : World → Array α → Prop} (K : Srt n g sf lb sb lt blk S) (lo hi F : Nat) (d : Array α) (w : World) (hS : S w d) (hb : F + hi ≤ n) (hlo : lo ≤ n) :
    Calls Try.prog 68 #[.agg #[.func (.func g) #[] lb, .func (.func sf) #[] sb], .int .i64 (lo : Int), .int .i64 (hi : Int), .int .i64 (F : Int)] w fun e w' => e = .returned (.tuple #[]) ∧ S w' (Sort.siftDown lt hi F lo d) ∧ Turned [blk] w w' := by
  have eg := K.enter
  have hn := K.few
  obtain ⟨R, hR⟩ : ∃ R, Sort.siftDown lt hi F lo d = R := ⟨_, rfl⟩
  rw [hR]
  replace hR : Aside (Sort.siftDown lt hi F lo d = R) := hR
  have h0 := Sr.begin (lv := .func (.func g) #[] lb) (sv := .func (.func sf) #[] sb) K hS 96
  go_enter Try.func68, Try.ntmps68
  go_wp2_with fail
  generalize w.alloc (.cells #[.func (.func g) #[] lb, .func (.func sf) #[] sb] 96) = W0 at *
  go_loopw [8] (fun t wr => ∃ (r : Nat) (dk : Array α), t = .int .i64 (r : Int) ∧ r ≤ n ∧ Sr S blk w.heap.size (.func (.func g) #[] lb) (.func (.func sf) #[] sb) w wr dk ∧ Aside (Sort.siftDown lt hi F r dk = R)) (fun t _ => hi - (Go.RowKit.intOf t).toNat)
  case atStart => exact ⟨lo, d, rfl, hlo, h0, hR⟩
  case round =>
    clear h0 hR
    obtain ⟨r, dk, rfl, hrn, h, hO⟩ := hrel
    have c0 := h.c0
    have c1 := h.c1
    by_cases hend : hi ≤ 2 * r + 1
    · have hR2 := hO.out
      rw [sift_end hend] at hR2
      subst hR2
      clear hO
      have i1 : (hi : Int) ≤ 2 * (r : Int) + 1 := by omega
      go_wp2_with fail
      go_end0
      exact ⟨rfl, h.row, h.turned⟩
    have i1 : ¬ (hi : Int) ≤ 2 * (r : Int) + 1 := by omega
    by_cases hr2 : 2 * r + 2 < hi
    · have i2 : 2 * (r : Int) + 1 + 1 < (hi : Int) := by omega
      cases hl1 : lt dk[F + (2 * r + 1)]! dk[F + (2 * r + 1) + 1]!
      · have hO2 := hO.out
        rw [sift_left (by omega) (.inr hl1)] at hO2
        clear hO
        cases hl2 : lt dk[F + r]! dk[F + (2 * r + 1)]!
        · rw [hl2, if_neg (by decide)] at hO2
          subst hO2
          go_wp2_with (first | (go_at_fn g; refine (K.lessAt (F + r) (F + (2 * r + 1)) (by omega) (by omega) (by omega) (by omega) h1.row hl2).mono ?_; rintro e w2 ⟨rfl, hb2⟩; have h2 := h1.below K hb2; have c0 := h2.c0; have c1 := h2.c1) | (go_at_fn g; refine (K.lessAt (F + (2 * r + 1)) (F + (2 * r + 1) + 1) (by omega) (by omega) (by omega) (by omega) h.row hl1).mono ?_; rintro e w1 ⟨rfl, hb1⟩; have h1 := h.below K hb1; have c0 := h1.c0; have c1 := h1.c1))
          refine bodyPost_ret (results_none rfl _ _ _) rfl ?_
          exact ⟨rfl, h2.row, h2.turned⟩
        · rw [hl2, if_pos rfl] at hO2
          replace hO2 : Aside _ := hO2
          go_wp2_with (first | (go_at_fn g; refine (K.lessAt (F + r) (F + (2 * r + 1)) (by omega) (by omega) (by omega) (by omega) h1.row hl2).mono ?_; rintro e w2 ⟨rfl, hb2⟩; have h2 := h1.below K hb2; have c0 := h2.c0; have c1 := h2.c1; obtain ⟨w3, hsw, h3⟩ := K.swapAt (i := (F : Int) + (r : Int)) (j := (F : Int) + (2 * (r : Int) + 1)) (F + r) (F + (2 * r + 1)) (by omega) (by omega) (by omega) (by omega) h2) | (go_at_fn g; refine (K.lessAt (F + (2 * r + 1)) (F + (2 * r + 1) + 1) (by omega) (by omega) (by omega) (by omega) h.row hl1).mono ?_; rintro e w1 ⟨rfl, hb1⟩; have h1 := h.below K hb1; have c0 := h1.c0; have c1 := h1.c1))
          exact ⟨⟨2 * r + 1, _, by simp; try omega, by omega, h3, hO2⟩, by simp [Go.RowKit.intOf]; omega⟩
      · have hO2 := hO.out
        rw [sift_right hr2 hl1] at hO2
        clear hO
        cases hl2 : lt dk[F + r]! dk[F + (2 * r + 2)]!
        · rw [hl2, if_neg (by decide)] at hO2
          subst hO2
          go_wp2_with (first | (go_at_fn g; refine (K.lessAt (F + r) (F + (2 * r + 2)) (by omega) (by omega) (by omega) (by omega) h1.row hl2).mono ?_; rintro e w2 ⟨rfl, hb2⟩; have h2 := h1.below K hb2; have c0 := h2.c0; have c1 := h2.c1) | (go_at_fn g; refine (K.lessAt (F + (2 * r + 1)) (F + (2 * r + 1) + 1) (by omega) (by omega) (by omega) (by omega) h.row hl1).mono ?_; rintro e w1 ⟨rfl, hb1⟩; have h1 := h.below K hb1; have c0 := h1.c0; have c1 := h1.c1))
          refine bodyPost_ret (results_none rfl _ _ _) rfl ?_
          exact ⟨rfl, h2.row, h2.turned⟩
        · rw [hl2, if_pos rfl] at hO2
          replace hO2 : Aside _ := hO2
          go_wp2_with (first | (go_at_fn g; refine (K.lessAt (F + r) (F + (2 * r + 2)) (by omega) (by omega) (by omega) (by omega) h1.row hl2).mono ?_; rintro e w2 ⟨rfl, hb2⟩; have h2 := h1.below K hb2; have c0 := h2.c0; have c1 := h2.c1; obtain ⟨w3, hsw, h3⟩ := K.swapAt (i := (F : Int) + (r : Int)) (j := (F : Int) + (2 * (r : Int) + 1 + 1)) (F + r) (F + (2 * r + 2)) (by omega) (by omega) (by omega) (by omega) h2) | (go_at_fn g; refine (K.lessAt (F + (2 * r + 1)) (F + (2 * r + 1) + 1) (by omega) (by omega) (by omega) (by omega) h.row hl1).mono ?_; rintro e w1 ⟨rfl, hb1⟩; have h1 := h.below K hb1; have c0 := h1.c0; have c1 := h1.c1))
          exact ⟨⟨2 * r + 2, _, by simp; try omega, by omega, h3, hO2⟩, by simp [Go.RowKit.intOf]; omega⟩
    · have i2 : ¬ 2 * (r : Int) + 1 + 1 < (hi : Int) := by omega
      have hO2 := hO.out
      rw [sift_left (by omega) (.inl hr2)] at hO2
      clear hO
      cases hl2 : lt dk[F + r]! dk[F + (2 * r + 1)]!
      · rw [hl2, if_neg (by decide)] at hO2
        subst hO2
        go_wp2_with (go_at_fn g; refine (K.lessAt (F + r) (F + (2 * r + 1)) (by omega) (by omega) (by omega) (by omega) h.row hl2).mono ?_; rintro e w2 ⟨rfl, hb2⟩; have h2 := h.below K hb2; have c0 := h2.c0; have c1 := h2.c1)
        refine bodyPost_ret (results_none rfl _ _ _) rfl ?_
        exact ⟨rfl, h2.row, h2.turned⟩
      · rw [hl2, if_pos rfl] at hO2
        replace hO2 : Aside _ := hO2
        go_wp2_with (go_at_fn g; refine (K.lessAt (F + r) (F + (2 * r + 1)) (by omega) (by omega) (by omega) (by omega) h.row hl2).mono ?_; rintro e w2 ⟨rfl, hb2⟩; have h2 := h.below K hb2; have c0 := h2.c0; have c1 := h2.c1; obtain ⟨w3, hsw, h3⟩ := K.swapAt (i := (F : Int) + (r : Int)) (j := (F : Int) + (2 * (r : Int) + 1)) (F + r) (F + (2 * r + 1)) (by omega) (by omega) (by omega) (by omega) h2)
        exact ⟨⟨2 * r + 1, _, by simp; try omega, by omega, h3, hO2⟩, by simp [Go.RowKit.intOf]; omega⟩
set_option maxRecDepth 8000 in
set_option maxHeartbeats 8000000 in
theorem sheap_any {α : Type} [Inhabited α] {n g sf blk : Nat} {lb sb : Array Value} {lt : α → α → Bool} {S : World → Array α → Prop} (K : Srt n g sf lb sb lt blk S) (a b : Nat) (d : Array α) (w : World) (hS : S w d) (hab : a < b) (hb : b ≤ n) :
    Calls Try.prog 61 #[.agg #[.func (.func g) #[] lb, .func (.func sf) #[] sb], .int .i64 (a : Int), .int .i64 (b : Int)] w fun e w' => e = .returned (.tuple #[]) ∧ S w' (Sort.heapSort lt d a b) ∧ Turned [blk] w w' := by
  have hn := K.few
  have hund := Try.underlying96
  have hsz : (Try.prog.info? 96).map (·.size) = some 2 := by kernel_rfl
  obtain ⟨R, hR⟩ : ∃ R, Sort.heapSort lt d a b = R := ⟨_, rfl⟩
  rw [hR]
  obtain ⟨m, hm⟩ : ∃ m, b - a = m := ⟨_, rfl⟩
  obtain ⟨q, hq⟩ : ∃ q, (m - 1) / 2 + 1 = q := ⟨_, rfl⟩
  replace hR : Aside (Sort.heapPop lt a m (Sort.heapBuild lt m a q d) = R) := by
    unfold Sort.heapSort at hR
    rw [hm, hq] at hR
    exact hR
  have eh : (b : Int) - (a : Int) = (m : Int) := by omega
  have e1 : (1 : Int) ≤ (m : Int) := by omega
  have e2 : ((m : Int) - 1) / 2 = (q : Int) - 1 := by omega
  have e3 : ((m : Int) - 1).tdiv 2 = (q : Int) - 1 := by rw [Int.tdiv_eq_ediv_of_nonneg (by omega)]; exact e2
  have hqm : q ≤ m := by omega
  have hmn : a + m ≤ n := by omega
  clear hm hq
  have h0 := Sr.begin (lv := .func (.func g) #[] lb) (sv := .func (.func sf) #[] sb) K hS 96
  go_enter Try.func61, Try.ntmps61
  go_wp2_with fail
  generalize w.alloc (.cells #[.func (.func g) #[] lb, .func (.func sf) #[] sb] 96) = W0 at *
  go_loopw [9] (fun t wr => ∃ (k : Nat) (dk : Array α), t = .int .i64 ((k : Int) - 1) ∧ k ≤ m ∧ Sr S blk w.heap.size (.func (.func g) #[] lb) (.func (.func sf) #[] sb) w wr dk ∧ Aside (Sort.heapPop lt a m (Sort.heapBuild lt m a k dk) = R)) (fun t _ => (Go.RowKit.intOf t + 1).toNat)
  case atStart => exact ⟨q, d, rfl, hqm, h0, hR⟩
  case round =>
    clear h0 hR e2 e3 hqm
    obtain ⟨k, dk, rfl, hkm, h, hO⟩ := hrel
    cases k with
    | succ k =>
      have hrr := h.box.range
      have ek : ((k + 1 : Nat) : Int) - 1 = (k : Int) := by omega
      rw [ek]
      go_wp2_with (first | (refine wpList_load_row rfl _ rfl w.heap.size rfl [.func (.func g) #[] lb, .func (.func sf) #[] sb] hrr hund rfl hsz ?_) | (go_at_call 68; refine (ssift_any K k m a dk wr h.row hmn (by omega)).mono ?_; rintro e w1 ⟨rfl, hS1, hT1⟩; have h1 := h.swapped hS1 hT1))
      exact ⟨⟨k, _, rfl, by omega, h1, hO⟩, by simp [Go.RowKit.intOf]; try omega⟩
    | zero =>
      replace hO : Aside (Sort.heapPop lt a m dk = R) := hO
      rw [show (((0 : Nat) : Int) - 1) = -1 from rfl]
      go_wp2_with fail
      go_loopw [10] (fun t wr => ∃ (k : Nat) (dk : Array α), t = .int .i64 ((k : Int) - 1) ∧ k ≤ m ∧ Sr S blk w.heap.size (.func (.func g) #[] lb) (.func (.func sf) #[] sb) w wr dk ∧ Aside (Sort.heapPop lt a k dk = R)) (fun t _ => (Go.RowKit.intOf t + 1).toNat)
      case atStart => exact ⟨m, dk, rfl, Nat.le_refl _, h, hO⟩
      case round =>
        clear h hO
        obtain ⟨k, dk, rfl, hkm, h, hO⟩ := hrel
        cases k with
        | succ k =>
          have c1 := h.c1
          have ek : ((k + 1 : Nat) : Int) - 1 = (k : Int) := by omega
          rw [ek]
          obtain ⟨w3, hsw, h3⟩ := K.swapAt (i := (a : Int)) (j := (a : Int) + (k : Int)) a (a + k) rfl (by omega) (by omega) (by omega) h
          have hrr := h3.box.range
          go_wp2_with (first | (refine wpList_load_row rfl _ rfl w.heap.size rfl [.func (.func g) #[] lb, .func (.func sf) #[] sb] hrr hund rfl hsz ?_) | (go_at_call 68; refine (ssift_any K 0 k a _ w3 h3.row (by omega) (by omega)).mono ?_; rintro e w1 ⟨rfl, hS1, hT1⟩; have h1 := h3.swapped hS1 hT1))
          exact ⟨⟨k, _, rfl, by omega, h1, hO⟩, by simp [Go.RowKit.intOf]; try omega⟩
        | zero =>
          have hR2 := hO.out
          rw [Sort.heapPop] at hR2
          subst hR2
          clear hO
          rw [show (((0 : Nat) : Int) - 1) = -1 from rfl]
          go_wp2_with fail
          go_end0
          exact ⟨rfl, h.row, h.turned⟩
end Go.Proofs.Ytajondkpdgiolaa

/-! SORTS by a closure: partitionEqual. -/
namespace Go.Proofs.Ytajondkpdgiolaa
open Go.RowKit
set_option maxRecDepth 8000
set_option linter.unusedSimpArgs false
set_option linter.unusedVariables false

section
variable {α : Type} [Inhabited α] {p : α → Bool} {d : Array α} {i j : Nat}
theorem up_go (h : i ≤ j) (hp : p d[i]! = true) : Sort.scanUp p d j i = Sort.scanUp p d j (i + 1) := by rw [Sort.scanUp, if_pos (by simp [h, hp])]
theorem up_end (h : ¬ i ≤ j ∨ p d[i]! = false) : Sort.scanUp p d j i = i := by rw [Sort.scanUp, if_neg (by rcases h with h | h <;> simp [h])]
theorem dn_go (h : i ≤ j) (h0 : 0 < j) (hp : p d[j]! = true) : Sort.scanDown p d i j = Sort.scanDown p d i (j - 1) := by
  cases j with
  | zero => omega
  | succ j => rw [Sort.scanDown, if_pos (by simp [h, hp])]; rfl
theorem dn_end (h : ¬ i ≤ j ∨ p d[j]! = false) : Sort.scanDown p d i j = j := by
  cases j with
  | zero => rw [Sort.scanDown]
  | succ j => rw [Sort.scanDown, if_neg (by rcases h with h | h <;> simp [h])]
end
set_option maxRecDepth 8000 in
set_option maxHeartbeats 8000000 in
theorem sparteq_any {α : Type} [Inhabited α] {n g sf blk : Nat} {lb sb : Array Value} {lt : α → α → Bool} {S : World → Array α → Prop} (K : Srt n g sf lb sb lt blk S) (a b pv : Nat) (d : Array α) (w : World) (hS : S w d) (hap : a ≤ pv) (hpb : pv < b) (hb : b ≤ n) :
    Calls Try.prog 66 #[.agg #[.func (.func g) #[] lb, .func (.func sf) #[] sb], .int .i64 (a : Int), .int .i64 (b : Int), .int .i64 (pv : Int)] w fun e w' => e = .returned (.int .i64 (((Sort.partitionEqual lt d a b pv).1 : Nat) : Int)) ∧ S w' (Sort.partitionEqual lt d a b pv).2 ∧ Turned [blk] w w' := by
  have eg := K.enter
  have hn := K.few
  obtain ⟨⟨M, R⟩, hR⟩ : ∃ r, Sort.partitionEqual lt d a b pv = r := ⟨_, rfl⟩
  rw [hR]
  show Calls _ _ _ _ fun e w' => e = .returned (.int .i64 ((M : Nat) : Int)) ∧ S w' R ∧ Turned [blk] w w'
  replace hR : Aside (Sort.partEqLoop lt a (a + 1) (b - 1) (Sort.swp d a pv) = (M, R)) := hR
  have h0 := Sr.begin (lv := .func (.func g) #[] lb) (sv := .func (.func sf) #[] sb) K hS 96
  obtain ⟨w3, hsw, h3⟩ := K.swapAt (i := (a : Int)) (j := (pv : Int)) a pv rfl rfl (by omega) (by omega) h0
  have c1 := h0.c1
  go_enter Try.func66, Try.ntmps66
  go_wp2_with fail
  generalize w.alloc (.cells #[.func (.func g) #[] lb, .func (.func sf) #[] sb] 96) = W0 at *
  clear h0 hsw c1
  go_loopw [9, 10] (fun t9 t10 wr => ∃ (i j : Nat) (dk : Array α), t9 = .int .i64 (i : Int) ∧ t10 = .int .i64 (j : Int) ∧ a < i ∧ i ≤ j + 2 ∧ j < b ∧ Sr S blk w.heap.size (.func (.func g) #[] lb) (.func (.func sf) #[] sb) w wr dk ∧ Aside (Sort.partEqLoop lt a i j dk = (M, R))) (fun t9 t10 _ => (Go.RowKit.intOf t10 + 1 - Go.RowKit.intOf t9).toNat)
  case atStart => exact ⟨a + 1, b - 1, _, by simp, by congr 1; omega, by omega, by omega, by omega, h3, hR⟩
  case round =>
    clear h3 hR
    obtain ⟨i, j, dk, rfl, rfl, hai, hij, hjb, h, hO⟩ := hrel
    replace hO := hO.out
    rw [Sort.partEqLoop_eq] at hO
    replace hO : Aside _ := hO
    go_upto_block 2 with fail
    go_cut [9] from 20 to 56 (fun s9 wc => ∃ (i2 : Nat), s9 = .int .i64 (i2 : Int) ∧ i ≤ i2 ∧ i2 ≤ j + 2 ∧ Sr S blk w.heap.size (.func (.func g) #[] lb) (.func (.func sf) #[] sb) w wc dk ∧ Aside (Sort.scanUp (fun x => !lt dk[a]! x) dk j i = i2))
    case first =>
      go_wp2_with fail
      go_loopw [9] (fun t9 wr => ∃ (i2 : Nat), t9 = .int .i64 (i2 : Int) ∧ i ≤ i2 ∧ i2 ≤ j + 2 ∧ Sr S blk w.heap.size (.func (.func g) #[] lb) (.func (.func sf) #[] sb) w wr dk ∧ Aside (Sort.scanUp (fun x => !lt dk[a]! x) dk j i = Sort.scanUp (fun x => !lt dk[a]! x) dk j i2)) (fun t9 _ => j + 2 - (Go.RowKit.intOf t9).toNat)
      case atStart => exact ⟨i, rfl, Nat.le_refl _, hij, h, rfl⟩
      case round =>
        clear h hO
        obtain ⟨i2, rfl, hi2, hi2j, h, hI⟩ := hrel
        have c0 := h.c0
        by_cases hle : i2 ≤ j
        · have i1 : (i2 : Int) ≤ (j : Int) := by omega
          cases hl1 : lt dk[a]! dk[i2]!
          · have hI2 := hI.out
            rw [up_go (i := i2) hle (by simp [hl1])] at hI2
            replace hI2 : Aside _ := hI2
            go_wp2_with (go_at_fn g; refine (K.lessAt a i2 rfl rfl (by omega) (by omega) h.row hl1).mono ?_; rintro e w1 ⟨rfl, hb1⟩; have h1 := h.below K hb1)
            exact ⟨⟨i2 + 1, by simp, by omega, by omega, h1, hI2⟩, by simp [Go.RowKit.intOf]; omega⟩
          · have hI2 := hI.out
            rw [up_end (i := i2) (.inr (by simp [hl1]))] at hI2
            replace hI2 : Aside _ := hI2
            go_wp2_with (go_at_fn g; refine (K.lessAt a i2 rfl rfl (by omega) (by omega) h.row hl1).mono ?_; rintro e w1 ⟨rfl, hb1⟩; have h1 := h.below K hb1)
            go_meet
            exact ⟨i2, rfl, hi2, hi2j, h1, hI2⟩
        · have i1 : ¬ (i2 : Int) ≤ (j : Int) := by omega
          have hI2 := hI.out
          rw [up_end (i := i2) (.inl hle)] at hI2
          replace hI2 : Aside _ := hI2
          go_wp2_with fail
          go_meet
          exact ⟨i2, rfl, hi2, hi2j, h, hI2⟩
    case rest =>
      clear h
      obtain ⟨i2, rfl, hi2, hi2j, h, hI⟩ := hcut
      replace hO := hO.out
      rw [hI.out] at hO
      replace hO : Aside _ := hO
      go_upto_block 4 with fail
      go_cut [10] from 20 to 56 (fun s10 wc => ∃ (j2 : Nat), s10 = .int .i64 (j2 : Int) ∧ j2 ≤ j ∧ i2 ≤ j2 + 2 ∧ Sr S blk w.heap.size (.func (.func g) #[] lb) (.func (.func sf) #[] sb) w wc dk ∧ Aside (Sort.scanDown (fun x => lt dk[a]! x) dk i2 j = j2))
      case first =>
        go_wp2_with fail
        go_loopw [10] (fun t10 wr => ∃ (j2 : Nat), t10 = .int .i64 (j2 : Int) ∧ j2 ≤ j ∧ i2 ≤ j2 + 2 ∧ Sr S blk w.heap.size (.func (.func g) #[] lb) (.func (.func sf) #[] sb) w wr dk ∧ Aside (Sort.scanDown (fun x => lt dk[a]! x) dk i2 j = Sort.scanDown (fun x => lt dk[a]! x) dk i2 j2)) (fun t10 _ => (Go.RowKit.intOf t10).toNat)
        case atStart => exact ⟨j, rfl, Nat.le_refl _, hi2j, h, rfl⟩
        case round =>
          clear h hO hI
          obtain ⟨j2, rfl, hj2, hj2i, h, hI⟩ := hrel
          have c0 := h.c0
          by_cases hle : i2 ≤ j2
          · have i1 : (i2 : Int) ≤ (j2 : Int) := by omega
            cases hl1 : lt dk[a]! dk[j2]!
            · have hI2 := hI.out
              rw [dn_end (j := j2) (.inr (by simp [hl1]))] at hI2
              replace hI2 : Aside _ := hI2
              go_wp2_with (go_at_fn g; refine (K.lessAt a j2 rfl rfl (by omega) (by omega) h.row hl1).mono ?_; rintro e w1 ⟨rfl, hb1⟩; have h1 := h.below K hb1)
              go_meet
              exact ⟨j2, rfl, hj2, hj2i, h1, hI2⟩
            · have hI2 := hI.out
              rw [dn_go (j := j2) hle (by omega) (by simp [hl1])] at hI2
              replace hI2 : Aside _ := hI2
              go_wp2_with (go_at_fn g; refine (K.lessAt a j2 rfl rfl (by omega) (by omega) h.row hl1).mono ?_; rintro e w1 ⟨rfl, hb1⟩; have h1 := h.below K hb1)
              exact ⟨⟨j2 - 1, by simp; omega, by omega, by omega, h1, hI2⟩, by simp [Go.RowKit.intOf]; omega⟩
          · have i1 : ¬ (i2 : Int) ≤ (j2 : Int) := by omega
            have hI2 := hI.out
            rw [dn_end (j := j2) (.inl hle)] at hI2
            replace hI2 : Aside _ := hI2
            go_wp2_with fail
            go_meet
            exact ⟨j2, rfl, hj2, hj2i, h, hI2⟩
      case rest =>
        clear h hI
        obtain ⟨j2, rfl, hj2, hj2i, h, hI⟩ := hcut
        replace hO := hO.out
        rw [hI.out] at hO
        have c1 := h.c1
        clear hI
        by_cases hgt : i2 > j2
        · rw [if_pos hgt] at hO
          injection hO with e1 e2
          subst e1 e2
          have i1 : (j2 : Int) < (i2 : Int) := by omega
          go_wp2_with fail
          go_ret
          exact ⟨rfl, h.row, h.turned⟩
        · rw [if_neg hgt] at hO
          replace hO : Aside _ := hO
          have i1 : ¬ (j2 : Int) < (i2 : Int) := by omega
          obtain ⟨w3, hsw, h3⟩ := K.swapAt (i := (i2 : Int)) (j := (j2 : Int)) i2 j2 rfl rfl (by omega) (by omega) h
          go_wp2_with fail
          exact ⟨⟨i2 + 1, j2 - 1, _, by simp, by simp; omega, by omega, by omega, by omega, h3, hO⟩, by simp [Go.RowKit.intOf]; omega⟩
end Go.Proofs.Ytajondkpdgiolaa

/-! SORTS by a closure: partition. Written by mk_srt.py. -/
namespace Go.Proofs.Ytajondkpdgiolaa
open Go.RowKit
set_option maxRecDepth 8000
set_option linter.unusedSimpArgs false
set_option linter.unusedVariables false

theorem part_two {α : Type} [Inhabited α] (lt : α → α → Bool) (d : Array α) (a b pv : Nat) : Sort.partition lt d a b pv =
    if Sort.scanUp (fun x => lt x (Sort.swp d a pv)[a]!) (Sort.swp d a pv) (b - 1) (a + 1) > Sort.scanDown (fun x => !lt x (Sort.swp d a pv)[a]!) (Sort.swp d a pv) (Sort.scanUp (fun x => lt x (Sort.swp d a pv)[a]!) (Sort.swp d a pv) (b - 1) (a + 1)) (b - 1) then (Sort.scanDown (fun x => !lt x (Sort.swp d a pv)[a]!) (Sort.swp d a pv) (Sort.scanUp (fun x => lt x (Sort.swp d a pv)[a]!) (Sort.swp d a pv) (b - 1) (a + 1)) (b - 1), true, Sort.swp (Sort.swp d a pv) (Sort.scanDown (fun x => !lt x (Sort.swp d a pv)[a]!) (Sort.swp d a pv) (Sort.scanUp (fun x => lt x (Sort.swp d a pv)[a]!) (Sort.swp d a pv) (b - 1) (a + 1)) (b - 1)) a) else
      let r := Sort.partLoop lt a (Sort.scanUp (fun x => lt x (Sort.swp d a pv)[a]!) (Sort.swp d a pv) (b - 1) (a + 1) + 1) (Sort.scanDown (fun x => !lt x (Sort.swp d a pv)[a]!) (Sort.swp d a pv) (Sort.scanUp (fun x => lt x (Sort.swp d a pv)[a]!) (Sort.swp d a pv) (b - 1) (a + 1)) (b - 1) - 1) (Sort.swp (Sort.swp d a pv) (Sort.scanUp (fun x => lt x (Sort.swp d a pv)[a]!) (Sort.swp d a pv) (b - 1) (a + 1)) (Sort.scanDown (fun x => !lt x (Sort.swp d a pv)[a]!) (Sort.swp d a pv) (Sort.scanUp (fun x => lt x (Sort.swp d a pv)[a]!) (Sort.swp d a pv) (b - 1) (a + 1)) (b - 1)))
      (r.1, false, Sort.swp r.2 r.1 a) := rfl
set_option maxRecDepth 16000 in
set_option maxHeartbeats 8000000 in
theorem spart_any {α : Type} [Inhabited α] {n g sf blk : Nat} {lb sb : Array Value} {lt : α → α → Bool} {S : World → Array α → Prop} (K : Srt n g sf lb sb lt blk S) (a b pv : Nat) (d : Array α) (w : World) (hS : S w d) (hap : a ≤ pv) (hpb : pv < b) (hb : b ≤ n) :
    Calls Try.prog 67 #[.agg #[.func (.func g) #[] lb, .func (.func sf) #[] sb], .int .i64 (a : Int), .int .i64 (b : Int), .int .i64 (pv : Int)] w fun e w' => e = .returned (.tuple #[.int .i64 (((Sort.partition lt d a b pv).1 : Nat) : Int), .bool (Sort.partition lt d a b pv).2.1]) ∧ S w' (Sort.partition lt d a b pv).2.2 ∧ Turned [blk] w w' := by
  have eg := K.enter
  have hn := K.few
  obtain ⟨⟨M, A, R⟩, hR⟩ : ∃ r, Sort.partition lt d a b pv = r := ⟨_, rfl⟩
  rw [hR]
  show Calls _ _ _ _ fun e w' => e = .returned (.tuple #[.int .i64 ((M : Nat) : Int), .bool A]) ∧ S w' R ∧ Turned [blk] w w'
  rw [part_two] at hR
  have h0 := Sr.begin (lv := .func (.func g) #[] lb) (sv := .func (.func sf) #[] sb) K hS 96
  obtain ⟨w3, hsw, h⟩ := K.swapAt (i := (a : Int)) (j := (pv : Int)) a pv rfl rfl (by omega) (by omega) h0
  have c1 := h0.c1
  obtain ⟨i, hi⟩ : ∃ i, a + 1 = i := ⟨_, rfl⟩
  obtain ⟨j, hj⟩ : ∃ j, b - 1 = j := ⟨_, rfl⟩
  obtain ⟨dk, hdk⟩ : ∃ dk, Sort.swp d a pv = dk := ⟨_, rfl⟩
  rw [hi, hj, hdk] at hR
  rw [hdk] at h
  have hO : Aside _ := hR
  have ei : (a : Int) + 1 = (i : Int) := by omega
  have ej : (b : Int) - 1 = (j : Int) := by omega
  have hai : a < i := by omega
  have hij : i ≤ j + 2 := by omega
  have hjb : j < b := by omega
  clear hR hi hj hdk
  go_enter Try.func67, Try.ntmps67
  go_upto_block 0 with fail
  generalize w.alloc (.cells #[.func (.func g) #[] lb, .func (.func sf) #[] sb] 96) = W0 at *
  clear h0 hsw c1 ei ej
  go_upto_block 0 with fail
  go_cut [10] from 21 (fun s1 wc => ∃ (i2 : Nat), s1 = .int .i64 (i2 : Int) ∧ i ≤ i2 ∧ i2 ≤ j + 2 ∧ Sr S blk w.heap.size (.func (.func g) #[] lb) (.func (.func sf) #[] sb) w wc dk ∧ Aside (Sort.scanUp (fun x => lt x dk[a]!) dk j i = i2))
  case first =>
    go_wp2_with fail
    go_loopw [10] (fun t9 wr => ∃ (i2 : Nat), t9 = .int .i64 (i2 : Int) ∧ i ≤ i2 ∧ i2 ≤ j + 2 ∧ Sr S blk w.heap.size (.func (.func g) #[] lb) (.func (.func sf) #[] sb) w wr dk ∧ Aside (Sort.scanUp (fun x => lt x dk[a]!) dk j i = Sort.scanUp (fun x => lt x dk[a]!) dk j i2)) (fun t9 _ => j + 2 - (Go.RowKit.intOf t9).toNat)
    case atStart => exact ⟨i, rfl, Nat.le_refl _, hij, h, rfl⟩
    case round =>
      clear h hO
      obtain ⟨i2, rfl, hi2, hi2j, h, hI⟩ := hrel
      have c0 := h.c0
      by_cases hle : i2 ≤ j
      · have i1 : (i2 : Int) ≤ (j : Int) := by omega
        cases hl1 : lt dk[i2]! dk[a]!
        · have hI2 := hI.out
          rw [up_end (i := i2) (.inr (by simp [hl1]))] at hI2
          replace hI2 : Aside _ := hI2
          go_wp2_with (go_at_fn g; refine (K.lessAt i2 a rfl rfl (by omega) (by omega) h.row hl1).mono ?_; rintro e w1 ⟨rfl, hb1⟩; have h1 := h.below K hb1)
          go_meet
          exact ⟨i2, rfl, hi2, hi2j, h1, hI2⟩
        · have hI2 := hI.out
          rw [up_go (i := i2) hle (by simp [hl1])] at hI2
          replace hI2 : Aside _ := hI2
          go_wp2_with (go_at_fn g; refine (K.lessAt i2 a rfl rfl (by omega) (by omega) h.row hl1).mono ?_; rintro e w1 ⟨rfl, hb1⟩; have h1 := h.below K hb1)
          exact ⟨⟨i2 + 1, by simp, by omega, by omega, h1, hI2⟩, by simp [Go.RowKit.intOf]; omega⟩
      · have i1 : ¬ (i2 : Int) ≤ (j : Int) := by omega
        have hI2 := hI.out
        rw [up_end (i := i2) (.inl hle)] at hI2
        replace hI2 : Aside _ := hI2
        go_wp2_with fail
        go_meet
        exact ⟨i2, rfl, hi2, hi2j, h, hI2⟩
  case rest =>
    clear h
    obtain ⟨i2, rfl, hi2, hi2j, h, hI⟩ := hcut
    replace hO := hO.out
    rw [hI.out] at hO
    replace hO : Aside _ := hO
    go_upto_block 2 with fail
    go_cut [11] from 21 (fun s1 wc => ∃ (j2 : Nat), s1 = .int .i64 (j2 : Int) ∧ j2 ≤ j ∧ i2 ≤ j2 + 2 ∧ Sr S blk w.heap.size (.func (.func g) #[] lb) (.func (.func sf) #[] sb) w wc dk ∧ Aside (Sort.scanDown (fun x => !lt x dk[a]!) dk i2 j = j2))
    case first =>
      go_wp2_with fail
      go_loopw [11] (fun t10 wr => ∃ (j2 : Nat), t10 = .int .i64 (j2 : Int) ∧ j2 ≤ j ∧ i2 ≤ j2 + 2 ∧ Sr S blk w.heap.size (.func (.func g) #[] lb) (.func (.func sf) #[] sb) w wr dk ∧ Aside (Sort.scanDown (fun x => !lt x dk[a]!) dk i2 j = Sort.scanDown (fun x => !lt x dk[a]!) dk i2 j2)) (fun t10 _ => (Go.RowKit.intOf t10).toNat)
      case atStart => exact ⟨j, rfl, Nat.le_refl _, hi2j, h, rfl⟩
      case round =>
        clear h hO hI
        obtain ⟨j2, rfl, hj2, hj2i, h, hI⟩ := hrel
        have c0 := h.c0
        by_cases hle : i2 ≤ j2
        · have i1 : (i2 : Int) ≤ (j2 : Int) := by omega
          cases hl1 : lt dk[j2]! dk[a]!
          · have hI2 := hI.out
            rw [dn_go (j := j2) hle (by omega) (by simp [hl1])] at hI2
            replace hI2 : Aside _ := hI2
            go_wp2_with (go_at_fn g; refine (K.lessAt j2 a rfl rfl (by omega) (by omega) h.row hl1).mono ?_; rintro e w1 ⟨rfl, hb1⟩; have h1 := h.below K hb1)
            exact ⟨⟨j2 - 1, by simp; omega, by omega, by omega, h1, hI2⟩, by simp [Go.RowKit.intOf]; omega⟩
          · have hI2 := hI.out
            rw [dn_end (j := j2) (.inr (by simp [hl1]))] at hI2
            replace hI2 : Aside _ := hI2
            go_wp2_with (go_at_fn g; refine (K.lessAt j2 a rfl rfl (by omega) (by omega) h.row hl1).mono ?_; rintro e w1 ⟨rfl, hb1⟩; have h1 := h.below K hb1)
            go_meet
            exact ⟨j2, rfl, hj2, hj2i, h1, hI2⟩
        · have i1 : ¬ (i2 : Int) ≤ (j2 : Int) := by omega
          have hI2 := hI.out
          rw [dn_end (j := j2) (.inl hle)] at hI2
          replace hI2 : Aside _ := hI2
          go_wp2_with fail
          go_meet
          exact ⟨j2, rfl, hj2, hj2i, h, hI2⟩
    case rest =>
      clear h hI
      obtain ⟨j2, rfl, hj2, hj2i, h, hI⟩ := hcut
      replace hO := hO.out
      rw [hI.out] at hO
      have c1 := h.c1
      clear hI
      by_cases hgt : i2 > j2
      · rw [if_pos hgt] at hO
        obtain ⟨e1, e2, e3⟩ : j2 = M ∧ true = A ∧ Sort.swp dk j2 a = R := by simpa using hO
        subst e1 e2 e3
        have i1 : (j2 : Int) < (i2 : Int) := by omega
        obtain ⟨w3, hsw, h3⟩ := K.swapAt (i := (j2 : Int)) (j := (a : Int)) j2 a rfl rfl (by omega) (by omega) h
        go_wp2_with fail
        go_ret2
        exact ⟨rfl, h3.row, h3.turned⟩
      · rw [if_neg hgt] at hO
        obtain ⟨⟨M1, R1⟩, hL⟩ : ∃ r, Sort.partLoop lt a (i2 + 1) (j2 - 1) (Sort.swp dk i2 j2) = r := ⟨_, rfl⟩
        rw [hL] at hO
        obtain ⟨e1, e2, e3⟩ : M1 = M ∧ false = A ∧ Sort.swp R1 M1 a = R := by simpa using hO
        subst e1 e2 e3
        replace hL : Aside _ := hL
        clear hO
        have i1 : ¬ (j2 : Int) < (i2 : Int) := by omega
        obtain ⟨w3, hsw, h3⟩ := K.swapAt (i := (i2 : Int)) (j := (j2 : Int)) i2 j2 rfl rfl (by omega) (by omega) h
        go_wp2_with fail
        go_loopw [10, 11] (fun t9 t10 wr => ∃ (i j : Nat) (dk : Array α), t9 = .int .i64 (i : Int) ∧ t10 = .int .i64 (j : Int) ∧ a < i ∧ i ≤ j + 2 ∧ j < b ∧ Sr S blk w.heap.size (.func (.func g) #[] lb) (.func (.func sf) #[] sb) w wr dk ∧ Aside (Sort.partLoop lt a i j dk = (M1, R1))) (fun t9 t10 _ => (Go.RowKit.intOf t10 + 1 - Go.RowKit.intOf t9).toNat)
        case atStart => exact ⟨i2 + 1, j2 - 1, _, by simp, by simp; omega, by omega, by omega, by omega, h3, hL⟩
        case round =>
          clear h3 hL h hsw c1 hij hai hjb hi2 hi2j hj2 hj2i hgt i1
          obtain ⟨i, j, dk, rfl, rfl, hai, hij, hjb, h, hO⟩ := hrel
          replace hO := hO.out
          rw [Sort.partLoop_eq] at hO
          replace hO : Aside _ := hO
          go_upto_block 6 with fail
          go_cut [10] from 64 to 100 (fun s1 wc => ∃ (i2 : Nat), s1 = .int .i64 (i2 : Int) ∧ i ≤ i2 ∧ i2 ≤ j + 2 ∧ Sr S blk w.heap.size (.func (.func g) #[] lb) (.func (.func sf) #[] sb) w wc dk ∧ Aside (Sort.scanUp (fun x => lt x dk[a]!) dk j i = i2))
          case first =>
            go_wp2_with fail
            go_loopw [10] (fun t9 wr => ∃ (i2 : Nat), t9 = .int .i64 (i2 : Int) ∧ i ≤ i2 ∧ i2 ≤ j + 2 ∧ Sr S blk w.heap.size (.func (.func g) #[] lb) (.func (.func sf) #[] sb) w wr dk ∧ Aside (Sort.scanUp (fun x => lt x dk[a]!) dk j i = Sort.scanUp (fun x => lt x dk[a]!) dk j i2)) (fun t9 _ => j + 2 - (Go.RowKit.intOf t9).toNat)
            case atStart => exact ⟨i, rfl, Nat.le_refl _, hij, h, rfl⟩
            case round =>
              clear h hO
              obtain ⟨i2, rfl, hi2, hi2j, h, hI⟩ := hrel
              have c0 := h.c0
              by_cases hle : i2 ≤ j
              · have i1 : (i2 : Int) ≤ (j : Int) := by omega
                cases hl1 : lt dk[i2]! dk[a]!
                · have hI2 := hI.out
                  rw [up_end (i := i2) (.inr (by simp [hl1]))] at hI2
                  replace hI2 : Aside _ := hI2
                  go_wp2_with (go_at_fn g; refine (K.lessAt i2 a rfl rfl (by omega) (by omega) h.row hl1).mono ?_; rintro e w1 ⟨rfl, hb1⟩; have h1 := h.below K hb1)
                  go_meet
                  exact ⟨i2, rfl, hi2, hi2j, h1, hI2⟩
                · have hI2 := hI.out
                  rw [up_go (i := i2) hle (by simp [hl1])] at hI2
                  replace hI2 : Aside _ := hI2
                  go_wp2_with (go_at_fn g; refine (K.lessAt i2 a rfl rfl (by omega) (by omega) h.row hl1).mono ?_; rintro e w1 ⟨rfl, hb1⟩; have h1 := h.below K hb1)
                  exact ⟨⟨i2 + 1, by simp, by omega, by omega, h1, hI2⟩, by simp [Go.RowKit.intOf]; omega⟩
              · have i1 : ¬ (i2 : Int) ≤ (j : Int) := by omega
                have hI2 := hI.out
                rw [up_end (i := i2) (.inl hle)] at hI2
                replace hI2 : Aside _ := hI2
                go_wp2_with fail
                go_meet
                exact ⟨i2, rfl, hi2, hi2j, h, hI2⟩
          case rest =>
            clear h
            obtain ⟨i2, rfl, hi2, hi2j, h, hI⟩ := hcut
            replace hO := hO.out
            rw [hI.out] at hO
            replace hO : Aside _ := hO
            go_upto_block 8 with fail
            go_cut [11] from 64 to 100 (fun s1 wc => ∃ (j2 : Nat), s1 = .int .i64 (j2 : Int) ∧ j2 ≤ j ∧ i2 ≤ j2 + 2 ∧ Sr S blk w.heap.size (.func (.func g) #[] lb) (.func (.func sf) #[] sb) w wc dk ∧ Aside (Sort.scanDown (fun x => !lt x dk[a]!) dk i2 j = j2))
            case first =>
              go_wp2_with fail
              go_loopw [11] (fun t10 wr => ∃ (j2 : Nat), t10 = .int .i64 (j2 : Int) ∧ j2 ≤ j ∧ i2 ≤ j2 + 2 ∧ Sr S blk w.heap.size (.func (.func g) #[] lb) (.func (.func sf) #[] sb) w wr dk ∧ Aside (Sort.scanDown (fun x => !lt x dk[a]!) dk i2 j = Sort.scanDown (fun x => !lt x dk[a]!) dk i2 j2)) (fun t10 _ => (Go.RowKit.intOf t10).toNat)
              case atStart => exact ⟨j, rfl, Nat.le_refl _, hi2j, h, rfl⟩
              case round =>
                clear h hO hI
                obtain ⟨j2, rfl, hj2, hj2i, h, hI⟩ := hrel
                have c0 := h.c0
                by_cases hle : i2 ≤ j2
                · have i1 : (i2 : Int) ≤ (j2 : Int) := by omega
                  cases hl1 : lt dk[j2]! dk[a]!
                  · have hI2 := hI.out
                    rw [dn_go (j := j2) hle (by omega) (by simp [hl1])] at hI2
                    replace hI2 : Aside _ := hI2
                    go_wp2_with (go_at_fn g; refine (K.lessAt j2 a rfl rfl (by omega) (by omega) h.row hl1).mono ?_; rintro e w1 ⟨rfl, hb1⟩; have h1 := h.below K hb1)
                    exact ⟨⟨j2 - 1, by simp; omega, by omega, by omega, h1, hI2⟩, by simp [Go.RowKit.intOf]; omega⟩
                  · have hI2 := hI.out
                    rw [dn_end (j := j2) (.inr (by simp [hl1]))] at hI2
                    replace hI2 : Aside _ := hI2
                    go_wp2_with (go_at_fn g; refine (K.lessAt j2 a rfl rfl (by omega) (by omega) h.row hl1).mono ?_; rintro e w1 ⟨rfl, hb1⟩; have h1 := h.below K hb1)
                    go_meet
                    exact ⟨j2, rfl, hj2, hj2i, h1, hI2⟩
                · have i1 : ¬ (i2 : Int) ≤ (j2 : Int) := by omega
                  have hI2 := hI.out
                  rw [dn_end (j := j2) (.inl hle)] at hI2
                  replace hI2 : Aside _ := hI2
                  go_wp2_with fail
                  go_meet
                  exact ⟨j2, rfl, hj2, hj2i, h, hI2⟩
            case rest =>
              clear h hI
              obtain ⟨j2, rfl, hj2, hj2i, h, hI⟩ := hcut
              replace hO := hO.out
              rw [hI.out] at hO
              have c1 := h.c1
              clear hI
              by_cases hgt : i2 > j2
              · rw [if_pos hgt] at hO
                obtain ⟨e1, e2⟩ := Prod.mk.inj hO
                subst e1 e2
                have i1 : (j2 : Int) < (i2 : Int) := by omega
                obtain ⟨w3, hsw, h3⟩ := K.swapAt (i := (j2 : Int)) (j := (a : Int)) j2 a rfl rfl (by omega) (by omega) h
                go_wp2_with fail
                go_ret2
                exact ⟨rfl, h3.row, h3.turned⟩
              · rw [if_neg hgt] at hO
                replace hO : Aside _ := hO
                have i1 : ¬ (j2 : Int) < (i2 : Int) := by omega
                obtain ⟨w3, hsw, h3⟩ := K.swapAt (i := (i2 : Int)) (j := (j2 : Int)) i2 j2 rfl rfl (by omega) (by omega) h
                go_wp2_with fail
                exact ⟨⟨i2 + 1, j2 - 1, _, by simp, by simp; omega, by omega, by omega, by omega, h3, hO⟩, by simp [Go.RowKit.intOf]; omega⟩
end Go.Proofs.Ytajondkpdgiolaa

/-! SORTS by a closure: partialInsertionSort. -/
namespace Go.Proofs.Ytajondkpdgiolaa
open Go.RowKit
set_option maxRecDepth 8000
set_option linter.unusedSimpArgs false
set_option linter.unusedVariables false

section
variable {α : Type} [Inhabited α] {lt : α → α → Bool} {d : Array α} {a b i j s : Nat}
theorem partial_succ : Sort.partialIns lt a b (s + 1) i d = if Sort.scanSorted lt d b i = b then (d, true) else if b - a < 50 then (d, false) else
    Sort.partialIns lt a b s (Sort.scanSorted lt d b i) (if b - Sort.scanSorted lt d b i ≥ 2 then Sort.shiftUp lt b (Sort.scanSorted lt d b i + 1) (if Sort.scanSorted lt d b i - a ≥ 2 then Sort.shiftDown lt (Sort.scanSorted lt d b i - 1) (Sort.swp d (Sort.scanSorted lt d b i) (Sort.scanSorted lt d b i - 1)) else Sort.swp d (Sort.scanSorted lt d b i) (Sort.scanSorted lt d b i - 1)) else (if Sort.scanSorted lt d b i - a ≥ 2 then Sort.shiftDown lt (Sort.scanSorted lt d b i - 1) (Sort.swp d (Sort.scanSorted lt d b i) (Sort.scanSorted lt d b i - 1)) else Sort.swp d (Sort.scanSorted lt d b i) (Sort.scanSorted lt d b i - 1))) := rfl
theorem ss_go (h : i < b) (hp : lt d[i]! d[i - 1]! = false) : Sort.scanSorted lt d b i = Sort.scanSorted lt d b (i + 1) := by rw [Sort.scanSorted, if_pos (by simp [h, hp])]
theorem ss_end (h : ¬ i < b ∨ lt d[i]! d[i - 1]! = true) : Sort.scanSorted lt d b i = i := by rw [Sort.scanSorted, if_neg (by rcases h with h | h <;> simp [h])]
theorem sh_go (h : lt d[j + 1]! d[j]! = true) : Sort.shiftDown lt (j + 1) d = Sort.shiftDown lt j (Sort.swp d (j + 1) j) := by rw [Sort.shiftDown, if_neg (by simp [h])]
theorem sh_end (h : lt d[j + 1]! d[j]! = false) : Sort.shiftDown lt (j + 1) d = d := by rw [Sort.shiftDown, if_pos (by simp [h])]
theorem su_go (h : j < b) (hp : lt d[j]! d[j - 1]! = true) : Sort.shiftUp lt b j d = Sort.shiftUp lt b (j + 1) (Sort.swp d j (j - 1)) := by rw [Sort.shiftUp, if_pos h, if_neg (by simp [hp])]
theorem su_stop (h : j < b) (hp : lt d[j]! d[j - 1]! = false) : Sort.shiftUp lt b j d = d := by rw [Sort.shiftUp, if_pos h, if_pos (by simp [hp])]
theorem su_end (h : ¬ j < b) : Sort.shiftUp lt b j d = d := by rw [Sort.shiftUp, if_neg h]
end
set_option maxRecDepth 16000 in
set_option maxHeartbeats 8000000 in
theorem spartial_any {α : Type} [Inhabited α] {n g sf blk : Nat} {lb sb : Array Value} {lt : α → α → Bool} {S : World → Array α → Prop} (K : Srt n g sf lb sb lt blk S) (a b : Nat) (d : Array α) (w : World) (hS : S w d) (hab : a < b) (hb : b ≤ n) :
    Calls Try.prog 65 #[.agg #[.func (.func g) #[] lb, .func (.func sf) #[] sb], .int .i64 (a : Int), .int .i64 (b : Int)] w fun e w' => e = .returned (.bool (Sort.partialInsertionSort lt d a b).2) ∧ S w' (Sort.partialInsertionSort lt d a b).1 ∧ Turned [blk] w w' := by
  have eg := K.enter
  have hn := K.few
  obtain ⟨⟨R, A⟩, hR⟩ : ∃ r, Sort.partialInsertionSort lt d a b = r := ⟨_, rfl⟩
  rw [hR]
  show Calls _ _ _ _ fun e w' => e = .returned (.bool A) ∧ S w' R ∧ Turned [blk] w w'
  replace hR : Aside (Sort.partialIns lt a b 5 (a + 1) d = (R, A)) := hR
  have h0 := Sr.begin (lv := .func (.func g) #[] lb) (sv := .func (.func sf) #[] sb) K hS 96
  go_enter Try.func65, Try.ntmps65
  go_wp2_with fail
  generalize w.alloc (.cells #[.func (.func g) #[] lb, .func (.func sf) #[] sb] 96) = W0 at *
  go_loopw [7, 8] (fun t7 t8 wr => ∃ (s i : Nat) (dk : Array α), t8 = .int .i64 (5 - (s : Int)) ∧ s ≤ 5 ∧ t7 = .int .i64 (i : Int) ∧ a < i ∧ i ≤ b ∧ Sr S blk w.heap.size (.func (.func g) #[] lb) (.func (.func sf) #[] sb) w wr dk ∧ Aside (Sort.partialIns lt a b s i dk = (R, A))) (fun _ t8 _ => (5 - Go.RowKit.intOf t8).toNat)
  case atStart => exact ⟨5, a + 1, d, rfl, by omega, by simp, by omega, by omega, h0, hR⟩
  case round =>
    clear h0 hR
    obtain ⟨s, i, dk, rfl, hs5, rfl, hai, hib, h, hO⟩ := hrel
    cases s with
    | zero =>
      have hR2 := hO.out
      rw [Sort.partialIns] at hR2
      obtain ⟨e1, e2⟩ := Prod.mk.inj hR2
      subst e1 e2
      clear hO hR2
      rw [show ((5 : Int) - ((0 : Nat) : Int)) = 5 from rfl]
      go_wp2_with fail
      go_ret
      exact ⟨rfl, h.row, h.turned⟩
    | succ s =>
      have i0 : (5 : Int) - ((s + 1 : Nat) : Int) < 5 := by omega
      obtain ⟨z, hz⟩ : ∃ z : Int, (5 : Int) - ((s + 1 : Nat) : Int) = z := ⟨_, rfl⟩
      rw [hz] at i0 ⊢
      replace hO := hO.out
      rw [partial_succ] at hO
      replace hO : Aside _ := hO
      have iz : 0 ≤ z := by omega
      replace hz : Aside (z = 4 - (s : Int)) := by show z = 4 - (s : Int); omega
      go_upto_block 2 with fail
      go_cut [7] from 13 to 90 (fun s7 wc => ∃ (i2 : Nat), s7 = .int .i64 (i2 : Int) ∧ a < i2 ∧ i2 ≤ b ∧ Sr S blk w.heap.size (.func (.func g) #[] lb) (.func (.func sf) #[] sb) w wc dk ∧ Aside (Sort.scanSorted lt dk b i = i2))
      case first =>
        go_wp2_with fail
        go_loopw [7] (fun t7 wr => ∃ (i2 : Nat), t7 = .int .i64 (i2 : Int) ∧ a < i2 ∧ i2 ≤ b ∧ Sr S blk w.heap.size (.func (.func g) #[] lb) (.func (.func sf) #[] sb) w wr dk ∧ Aside (Sort.scanSorted lt dk b i = Sort.scanSorted lt dk b i2)) (fun t7 _ => b - (Go.RowKit.intOf t7).toNat)
        case atStart => exact ⟨i, rfl, hai, hib, h, rfl⟩
        case round =>
          clear h hO
          obtain ⟨i2, rfl, hi2, hi2b, h, hI⟩ := hrel
          have c0 := h.c0
          by_cases hlt : i2 < b
          · have i1 : (i2 : Int) < (b : Int) := by omega
            cases hl1 : lt dk[i2]! dk[i2 - 1]!
            · have hI2 := hI.out
              rw [ss_go (i := i2) hlt hl1] at hI2
              replace hI2 : Aside _ := hI2
              go_wp2_with (go_at_fn g; refine (K.lessAt i2 (i2 - 1) rfl (by omega) (by omega) (by omega) h.row hl1).mono ?_; rintro e w1 ⟨rfl, hb1⟩; have h1 := h.below K hb1)
              exact ⟨⟨i2 + 1, by simp, by omega, by omega, h1, hI2⟩, by simp [Go.RowKit.intOf]; omega⟩
            · have hI2 := hI.out
              rw [ss_end (i := i2) (.inr hl1)] at hI2
              replace hI2 : Aside _ := hI2
              go_wp2_with (go_at_fn g; refine (K.lessAt i2 (i2 - 1) rfl (by omega) (by omega) (by omega) h.row hl1).mono ?_; rintro e w1 ⟨rfl, hb1⟩; have h1 := h.below K hb1)
              go_meet
              exact ⟨i2, rfl, hi2, hi2b, h1, hI2⟩
          · have i1 : ¬ (i2 : Int) < (b : Int) := by omega
            have hI2 := hI.out
            rw [ss_end (i := i2) (.inl hlt)] at hI2
            replace hI2 : Aside _ := hI2
            go_wp2_with fail
            go_meet
            exact ⟨i2, rfl, hi2, hi2b, h, hI2⟩
      case rest =>
        clear h hai hib
        obtain ⟨i2, rfl, hai, hib, h, hI⟩ := hcut
        replace hO := hO.out
        rw [hI.out] at hO
        clear hI
        have c1 := h.c1
        by_cases hib2 : i2 = b
        · rw [if_pos hib2] at hO
          obtain ⟨e1, e2⟩ := Prod.mk.inj hO
          subst e1 e2 hib2
          clear hO
          go_wp2_with fail
          go_ret
          exact ⟨rfl, h.row, h.turned⟩
        rw [if_neg hib2] at hO
        have i1 : ((i2 : Int) == (b : Int)) = false := by simp; omega
        by_cases h50 : b - a < 50
        · rw [if_pos h50] at hO
          obtain ⟨e1, e2⟩ := Prod.mk.inj hO
          subst e1 e2
          clear hO
          have i2 : (b : Int) - (a : Int) < 50 := by omega
          go_wp2_with fail
          go_ret
          exact ⟨rfl, h.row, h.turned⟩
        rw [if_neg h50] at hO
        have i3 : ¬ (b : Int) - (a : Int) < 50 := by omega
        obtain ⟨w3, hsw, h3⟩ := K.swapAt (i := (i2 : Int)) (j := (i2 : Int) - 1) i2 (i2 - 1) rfl (by omega) (by omega) (by omega) h
        obtain ⟨d2, hd2⟩ : ∃ d2, Sort.swp dk i2 (i2 - 1) = d2 := ⟨_, rfl⟩
        rw [hd2] at hO h3
        clear hd2 h
        obtain ⟨d3, hd3⟩ : ∃ d3, (if i2 - a ≥ 2 then Sort.shiftDown lt (i2 - 1) d2 else d2) = d3 := ⟨_, rfl⟩
        rw [hd3] at hO
        obtain ⟨d4, hd4⟩ : ∃ d4, (if b - i2 ≥ 2 then Sort.shiftUp lt b (i2 + 1) d3 else d3) = d4 := ⟨_, rfl⟩
        rw [hd4] at hO
        replace hO : Aside _ := hO
        replace hd3 : Aside _ := hd3
        replace hd4 : Aside _ := hd4
        go_upto_if 47 with fail
        clear hsw c1 i3 h50
        go_cut [9] from 44 to 90 (fun s9 wc => s9 = s9 ∧ Sr S blk w.heap.size (.func (.func g) #[] lb) (.func (.func sf) #[] sb) w wc d3)
        case first =>
          by_cases h2 : i2 - a ≥ 2
          · have hd3' := hd3.out
            rw [if_pos h2] at hd3'
            replace hd3' : Aside _ := hd3'
            have i4 : (2 : Int) ≤ (i2 : Int) - (a : Int) := by omega
            clear hO hd3 hd4
            go_wp2_with fail
            go_loopw [9] (fun t9 wr => ∃ (q : Nat) (dq : Array α), t9 = .int .i64 (q : Int) ∧ q < i2 ∧ Sr S blk w.heap.size (.func (.func g) #[] lb) (.func (.func sf) #[] sb) w wr dq ∧ Aside (Sort.shiftDown lt q dq = d3)) (fun t9 _ => (Go.RowKit.intOf t9).toNat)
            case atStart => exact ⟨i2 - 1, d2, by congr 1; omega, by omega, h3, hd3'⟩
            case round =>
              clear h3 hd3'
              obtain ⟨q, dq, rfl, hqi, h, hI⟩ := hrel
              have c0 := h.c0
              have c1 := h.c1
              cases q with
              | zero =>
                have hI2 := hI.out
                rw [Sort.shiftDown] at hI2
                subst hI2
                go_wp2_with fail
                go_meet
                exact ⟨trivial, h⟩
              | succ q =>
                have eq1 : ((q + 1 : Nat) : Int) = (q : Int) + 1 := by omega
                rw [eq1]
                cases hl1 : lt dq[q + 1]! dq[q]!
                · have hI2 := hI.out
                  rw [sh_end hl1] at hI2
                  subst hI2
                  go_wp2_with (go_at_fn g; refine (K.lessAt (q + 1) q (by omega) (by omega) (by omega) (by omega) h.row hl1).mono ?_; rintro e w1 ⟨rfl, hb1⟩; have h1 := h.below K hb1)
                  go_meet
                  exact ⟨trivial, h1⟩
                · have hI2 := hI.out
                  rw [sh_go hl1] at hI2
                  replace hI2 : Aside _ := hI2
                  go_wp2_with (go_at_fn g; refine (K.lessAt (q + 1) q (by omega) (by omega) (by omega) (by omega) h.row hl1).mono ?_; rintro e w1 ⟨rfl, hb1⟩; have h1 := h.below K hb1; have c1 := h1.c1; obtain ⟨w4, hsw, h4⟩ := K.swapAt (i := (q : Int) + 1) (j := (q : Int)) (q + 1) q (by omega) (by omega) (by omega) (by omega) h1)
                  exact ⟨⟨q, _, by simp, by omega, h4, hI2⟩, by simp [Go.RowKit.intOf]⟩
          · have hd3' := hd3.out
            rw [if_neg h2] at hd3'
            subst hd3'
            have i4 : ¬ (2 : Int) ≤ (i2 : Int) - (a : Int) := by omega
            clear hO hd3 hd4
            go_wp2_with fail
            go_meet
            exact ⟨trivial, h3⟩
        case rest =>
          clear h3 hd3
          obtain ⟨-, h3⟩ := hcut
          by_cases h2 : b - i2 ≥ 2
          · have hd4' := hd4.out
            rw [if_pos h2] at hd4'
            replace hd4' : Aside _ := hd4'
            have i4 : (2 : Int) ≤ (b : Int) - (i2 : Int) := by omega
            clear hd4
            go_wp2_with fail
            go_loopw [10] (fun t9 wr => ∃ (q : Nat) (dq : Array α), t9 = .int .i64 (q : Int) ∧ i2 < q ∧ q ≤ b ∧ Sr S blk w.heap.size (.func (.func g) #[] lb) (.func (.func sf) #[] sb) w wr dq ∧ Aside (Sort.shiftUp lt b q dq = d4)) (fun t9 _ => b - (Go.RowKit.intOf t9).toNat)
            case atStart => exact ⟨i2 + 1, d3, by simp, by omega, by omega, h3, hd4'⟩
            case round =>
              clear h3 hd4'
              obtain ⟨q, dq, rfl, hqi, hqb, h, hI⟩ := hrel
              have c0 := h.c0
              have c1 := h.c1
              by_cases hlt : q < b
              · have i5 : (q : Int) < (b : Int) := by omega
                cases hl1 : lt dq[q]! dq[q - 1]!
                · have hI2 := hI.out
                  rw [su_stop hlt hl1] at hI2
                  subst hI2
                  go_wp2_with (go_at_fn g; refine (K.lessAt q (q - 1) rfl (by omega) (by omega) (by omega) h.row hl1).mono ?_; rintro e w1 ⟨rfl, hb1⟩; have h1 := h.below K hb1)
                  exact ⟨⟨s, i2, _, by congr 1; have := hz.out; omega, by omega, rfl, hai, hib, h1, hO⟩, by have := hz.out; simp [Go.RowKit.intOf]; omega⟩
                · have hI2 := hI.out
                  rw [su_go hlt hl1] at hI2
                  replace hI2 : Aside _ := hI2
                  go_wp2_with (go_at_fn g; refine (K.lessAt q (q - 1) rfl (by omega) (by omega) (by omega) h.row hl1).mono ?_; rintro e w1 ⟨rfl, hb1⟩; have h1 := h.below K hb1; have c1 := h1.c1; obtain ⟨w4, hsw, h4⟩ := K.swapAt (i := (q : Int)) (j := (q : Int) - 1) q (q - 1) rfl (by omega) (by omega) (by omega) h1)
                  exact ⟨⟨q + 1, _, by simp, by omega, by omega, h4, hI2⟩, by simp [Go.RowKit.intOf]; omega⟩
              · have i5 : ¬ (q : Int) < (b : Int) := by omega
                have hI2 := hI.out
                rw [su_end hlt] at hI2
                subst hI2
                go_wp2_with fail
                exact ⟨⟨s, i2, _, by congr 1; have := hz.out; omega, by omega, rfl, hai, hib, h, hO⟩, by have := hz.out; simp [Go.RowKit.intOf]; omega⟩
          · have hd4' := hd4.out
            rw [if_neg h2] at hd4'
            subst hd4'
            have i4 : ¬ (2 : Int) ≤ (b : Int) - (i2 : Int) := by omega
            go_wp2_with fail
            exact ⟨⟨s, i2, _, by congr 1; have := hz.out; omega, by omega, rfl, hai, hib, h3, hO⟩, by have := hz.out; simp [Go.RowKit.intOf]; omega⟩
end Go.Proofs.Ytajondkpdgiolaa

/-! SORTS by a closure: order2, median, medianAdjacent, choosePivot; reverseRange. -/
namespace Go.Proofs.Ytajondkpdgiolaa
open Go.RowKit
set_option maxRecDepth 8000
set_option linter.unusedSimpArgs false
set_option linter.unusedVariables false

set_option maxRecDepth 8000 in
set_option maxHeartbeats 4000000 in
theorem sorder_any {α : Type} [Inhabited α] {n g sf blk cb : Nat} {lb sb : Array Value} {lt : α → α → Bool} {S : World → Array α → Prop} (K : Srt n g sf lb sb lt blk S) (a b s : Nat) (d : Array α) (w : World) (hS : S w d) (hc : BlkL cb [.int .i64 (s : Int)] w) (hk : ∀ {w w' : World}, S w d → (∀ k, k ≠ cb → w'.heap[k]? = w.heap[k]?) → S w' d) (ha : a < n) (hb : b < n) (hs : s < 1000) :
    Calls Try.prog 73 #[.agg #[.func (.func g) #[] lb, .func (.func sf) #[] sb], .int .i64 (a : Int), .int .i64 (b : Int), .pointer (some ⟨cb, 0, none⟩)] w fun e w' => e = .returned (.tuple #[.int .i64 ((Sort.order2 lt d a b s).1 : Int), .int .i64 ((Sort.order2 lt d a b s).2.1 : Int)]) ∧ S w' d ∧ BlkL cb [.int .i64 ((Sort.order2 lt d a b s).2.2 : Int)] w' ∧ Turned [cb] w w' := by
  have eg := K.enter
  have hn := K.few
  have hb0 := blkl_alloc w #[.func (.func g) #[] lb, .func (.func sf) #[] sb] 96
  have hB0 := alloc_below w (.cells #[.func (.func g) #[] lb, .func (.func sf) #[] sb] 96)
  have c0 := (hb0.1 0 _ rfl).1
  have hS0 := K.keep hS hB0
  have hc0 := stab_blk _ _ _ _ hc hB0
  unfold Sort.order2
  cases hl1 : lt d[b]! d[a]!
  · rw [if_neg (by decide)]
    show Calls _ _ _ _ fun e w' => e = .returned (.tuple #[.int .i64 (a : Int), .int .i64 (b : Int)]) ∧ S w' d ∧ BlkL cb [.int .i64 (s : Int)] w' ∧ Turned [cb] w w'
    go_enter Try.func73, Try.ntmps73
    go_wp2_with (go_at_fn g; refine (K.lessAt b a rfl rfl hb ha hS0 hl1).mono ?_; rintro e w1 ⟨rfl, hb1⟩)
    go_ret2
    exact ⟨rfl, K.keep hS0 hb1, stab_blk _ _ _ _ hc0 hb1, turned_below (Below.then hB0 hb1)⟩
  · rw [if_pos rfl]
    show Calls _ _ _ _ fun e w' => e = .returned (.tuple #[.int .i64 (b : Int), .int .i64 (a : Int)]) ∧ S w' d ∧ BlkL cb [.int .i64 ((s + 1 : Nat) : Int)] w' ∧ Turned [cb] w w'
    have es : ((s + 1 : Nat) : Int) = (s : Int) + 1 := by omega
    rw [es]
    go_enter Try.func73, Try.ntmps73
    go_wp2_with (go_at_fn g; refine (K.lessAt b a rfl rfl hb ha hS0 hl1).mono ?_; rintro e w1 ⟨rfl, hb1⟩; have hc1 := stab_blk _ _ _ _ hc0 hb1; have c2 := (hc1.1 0 _ rfl).1; have f2 := (hc1.1 0 _ rfl).2)
    go_ret2
    have hB1 := Below.then hB0 hb1
    refine ⟨rfl, hk (K.keep hS0 hb1) (fun k hk => heap_setCell_other _ ⟨cb, 0, none⟩ k _ hk), ⟨hc1.1.set 0 _ (by simp), by simpa using hc1.2⟩, hB1.os, hB1.tape, hB1.output, by simpa using hB1.size, fun k hk hn => ?_⟩
    rw [heap_setCell_other _ ⟨cb, 0, none⟩ k _ (by simpa using hn)]
    exact hB1.block k hk
section
variable {α : Type} [Inhabited α] (lt : α → α → Bool) (d : Array α) (a b c s : Nat)
theorem order_lt {n : Nat} (ha : a < n) (hb : b < n) : (Sort.order2 lt d a b s).1 < n ∧ (Sort.order2 lt d a b s).2.1 < n := by
  rcases Sort.order2_mem lt d a b s with ⟨h1, h2⟩ | ⟨h1, h2⟩ <;> rw [h1, h2]
  · exact ⟨ha, hb⟩
  · exact ⟨hb, ha⟩
theorem order_count : (Sort.order2 lt d a b s).2.2 ≤ s + 1 := by
  unfold Sort.order2
  split <;> simp
theorem median_count : (Sort.median lt d a b c s).2 ≤ s + 3 := by
  have h1 := order_count lt d a b s
  have h2 := order_count lt d (Sort.order2 lt d a b s).2.1 c (Sort.order2 lt d a b s).2.2
  have h3 := order_count lt d (Sort.order2 lt d a b s).1 (Sort.order2 lt d (Sort.order2 lt d a b s).2.1 c (Sort.order2 lt d a b s).2.2).1 (Sort.order2 lt d (Sort.order2 lt d a b s).2.1 c (Sort.order2 lt d a b s).2.2).2.2
  show (Sort.order2 lt d (Sort.order2 lt d a b s).1 (Sort.order2 lt d (Sort.order2 lt d a b s).2.1 c (Sort.order2 lt d a b s).2.2).1 (Sort.order2 lt d (Sort.order2 lt d a b s).2.1 c (Sort.order2 lt d a b s).2.2).2.2).2.2 ≤ s + 3
  omega
theorem median_lt {n : Nat} (ha : a < n) (hb : b < n) (hc : c < n) : (Sort.median lt d a b c s).1 < n := by
  rcases Sort.median_mem lt d a b c s with h | h | h <;> rw [h] <;> assumption
end
set_option maxRecDepth 8000 in
set_option maxHeartbeats 4000000 in
theorem smedian_any {α : Type} [Inhabited α] {n g sf blk cb : Nat} {lb sb : Array Value} {lt : α → α → Bool} {S : World → Array α → Prop} (K : Srt n g sf lb sb lt blk S) (a b c s : Nat) (d : Array α) (w : World) (hS : S w d) (hc : BlkL cb [.int .i64 (s : Int)] w) (hk : ∀ {w w' : World}, S w d → (∀ k, k ≠ cb → w'.heap[k]? = w.heap[k]?) → S w' d) (ha : a < n) (hb : b < n) (hcn : c < n) (hs : s < 900) :
    Calls Try.prog 72 #[.agg #[.func (.func g) #[] lb, .func (.func sf) #[] sb], .int .i64 (a : Int), .int .i64 (b : Int), .int .i64 (c : Int), .pointer (some ⟨cb, 0, none⟩)] w fun e w' => e = .returned (.int .i64 ((Sort.median lt d a b c s).1 : Int)) ∧ S w' d ∧ BlkL cb [.int .i64 ((Sort.median lt d a b c s).2 : Int)] w' ∧ Turned [cb] w w' := by
  have hund := Try.underlying96
  have hsz : (Try.prog.info? 96).map (·.size) = some 2 := by kernel_rfl
  have hb0 := blkl_alloc w #[.func (.func g) #[] lb, .func (.func sf) #[] sb] 96
  have hB0 := alloc_below w (.cells #[.func (.func g) #[] lb, .func (.func sf) #[] sb] 96)
  have hne : w.heap.size ≠ cb := fun e => by have := hc.2; omega
  have hS0 := K.keep hS hB0
  have hc0 := stab_blk _ _ _ _ hc hB0
  have hT0 : Turned [cb] w _ := turned_below hB0
  have e1 : Sort.median lt d a b c s = ((Sort.order2 lt d (Sort.order2 lt d a b s).1 (Sort.order2 lt d (Sort.order2 lt d a b s).2.1 c (Sort.order2 lt d a b s).2.2).1 (Sort.order2 lt d (Sort.order2 lt d a b s).2.1 c (Sort.order2 lt d a b s).2.2).2.2).2.1, (Sort.order2 lt d (Sort.order2 lt d a b s).1 (Sort.order2 lt d (Sort.order2 lt d a b s).2.1 c (Sort.order2 lt d a b s).2.2).1 (Sort.order2 lt d (Sort.order2 lt d a b s).2.1 c (Sort.order2 lt d a b s).2.2).2.2).2.2) := rfl
  rw [e1]
  clear e1
  have k1 := fun W q1 q2 => sorder_any (cb := cb) K a b s d W q1 q2 hk ha hb (by omega)
  have l1 := order_lt lt d a b s ha hb
  have m1 := order_count lt d a b s
  generalize Sort.order2 lt d a b s = r1 at *
  obtain ⟨x1, y1, s1⟩ := r1
  simp only at k1 l1 m1 ⊢
  have k2 := fun W q1 q2 => sorder_any (cb := cb) K y1 c s1 d W q1 q2 hk l1.2 hcn (by omega)
  have l2 := order_lt lt d y1 c s1 l1.2 hcn
  have m2 := order_count lt d y1 c s1
  generalize Sort.order2 lt d y1 c s1 = r2 at *
  obtain ⟨x2, y2, s2⟩ := r2
  simp only at k2 l2 m2 ⊢
  have k3 := fun W q1 q2 => sorder_any (cb := cb) K x1 x2 s2 d W q1 q2 hk l1.1 l2.1 (by omega)
  generalize Sort.order2 lt d x1 x2 s2 = r3 at *
  obtain ⟨x3, y3, s3⟩ := r3
  simp only at k3 ⊢
  go_enter Try.func72, Try.ntmps72
  have hr0 := hb0.range
  go_upto_region 1 with fail
  generalize w.alloc (.cells #[.func (.func g) #[] lb, .func (.func sf) #[] sb] 96) = W0 at *
  go_wp2_with (first | (refine wpList_load_row rfl _ rfl w.heap.size rfl [.func (.func g) #[] lb, .func (.func sf) #[] sb] hr0 hund rfl hsz ?_) | fail)
  refine (k1 _ hS0 hc0).mono ?_
  rintro e W1 ⟨rfl, hS1, hc1, hT1⟩
  have hb1 := hT1.blk hb0 (by simpa using hne)
  have hT01 := hT0.trans hT1
  have hr1 := hb1.range
  clear hr0 hb0 hS0 hc0 hT0 hT1
  go_wp2_with (first | (refine wpList_load_row rfl _ rfl w.heap.size rfl [.func (.func g) #[] lb, .func (.func sf) #[] sb] hr1 hund rfl hsz ?_) | fail)
  refine (k2 _ hS1 hc1).mono ?_
  rintro e W2 ⟨rfl, hS2, hc2, hT2⟩
  have hb2 := hT2.blk hb1 (by simpa using hne)
  have hT02 := hT01.trans hT2
  have hr2 := hb2.range
  clear hr1 hb1 hS1 hc1 hT01 hT2
  go_wp2_with (first | (refine wpList_load_row rfl _ rfl w.heap.size rfl [.func (.func g) #[] lb, .func (.func sf) #[] sb] hr2 hund rfl hsz ?_) | fail)
  refine (k3 _ hS2 hc2).mono ?_
  rintro e W3 ⟨rfl, hS3, hc3, hT3⟩
  go_wp2_with fail
  go_ret
  exact ⟨rfl, hS3, hc3, hT02.trans hT3⟩
set_option maxRecDepth 8000 in
set_option maxHeartbeats 4000000 in
theorem smedadj_any {α : Type} [Inhabited α] {n g sf blk cb : Nat} {lb sb : Array Value} {lt : α → α → Bool} {S : World → Array α → Prop} (K : Srt n g sf lb sb lt blk S) (a s : Nat) (d : Array α) (w : World) (hS : S w d) (hc : BlkL cb [.int .i64 (s : Int)] w) (hk : ∀ {w w' : World}, S w d → (∀ k, k ≠ cb → w'.heap[k]? = w.heap[k]?) → S w' d) (ha : 0 < a) (hb : a + 1 < n) (hs : s < 900) :
    Calls Try.prog 71 #[.agg #[.func (.func g) #[] lb, .func (.func sf) #[] sb], .int .i64 (a : Int), .pointer (some ⟨cb, 0, none⟩)] w fun e w' => e = .returned (.int .i64 ((Sort.medianAdjacent lt d a s).1 : Int)) ∧ S w' d ∧ BlkL cb [.int .i64 ((Sort.medianAdjacent lt d a s).2 : Int)] w' ∧ Turned [cb] w w' := by
  have hn := K.few
  have hund := Try.underlying96
  have hsz : (Try.prog.info? 96).map (·.size) = some 2 := by kernel_rfl
  have hb0 := blkl_alloc w #[.func (.func g) #[] lb, .func (.func sf) #[] sb] 96
  have hB0 := alloc_below w (.cells #[.func (.func g) #[] lb, .func (.func sf) #[] sb] 96)
  have hS0 := K.keep hS hB0
  have hc0 := stab_blk _ _ _ _ hc hB0
  have hT0 : Turned [cb] w _ := turned_below hB0
  have k1 := fun W q1 q2 => smedian_any (cb := cb) K (a - 1) a (a + 1) s d W q1 q2 hk (by omega) (by omega) (by omega) hs
  rw [show Sort.medianAdjacent lt d a s = Sort.median lt d (a - 1) a (a + 1) s from rfl]
  rw [show (((a - 1 : Nat)) : Int) = (a : Int) - 1 by omega, show (((a + 1 : Nat)) : Int) = (a : Int) + 1 by omega] at k1
  generalize Sort.median lt d (a - 1) a (a + 1) s = r1 at *
  have hr0 := hb0.range
  go_enter Try.func71, Try.ntmps71
  go_upto_region 1 with fail
  generalize w.alloc (.cells #[.func (.func g) #[] lb, .func (.func sf) #[] sb] 96) = W0 at *
  go_wp2_with (first | (refine wpList_load_row rfl _ rfl w.heap.size rfl [.func (.func g) #[] lb, .func (.func sf) #[] sb] hr0 hund rfl hsz ?_) | fail)
  refine (k1 _ hS0 hc0).mono ?_
  rintro e W1 ⟨rfl, hS1, hc1, hT1⟩
  go_wp2_with fail
  go_ret
  exact ⟨rfl, hS1, hc1, hT0.trans hT1⟩
theorem rev_go {α : Type} [Inhabited α] {d : Array α} {i j : Nat} (h : i < j) : Sort.reverseLoop i j d = Sort.reverseLoop (i + 1) (j - 1) (Sort.swp d i j) := by rw [Sort.reverseLoop, if_pos h]
theorem rev_end {α : Type} [Inhabited α] {d : Array α} {i j : Nat} (h : ¬ i < j) : Sort.reverseLoop i j d = d := by rw [Sort.reverseLoop, if_neg h]
set_option maxRecDepth 8000 in
set_option maxHeartbeats 4000000 in
theorem srev_any {α : Type} [Inhabited α] {n g sf blk : Nat} {lb sb : Array Value} {lt : α → α → Bool} {S : World → Array α → Prop} (K : Srt n g sf lb sb lt blk S) (a b : Nat) (d : Array α) (w : World) (hS : S w d) (hab : a < b) (hb : b ≤ n) :
    Calls Try.prog 64 #[.agg #[.func (.func g) #[] lb, .func (.func sf) #[] sb], .int .i64 (a : Int), .int .i64 (b : Int)] w fun e w' => e = .returned (.tuple #[]) ∧ S w' (Sort.reverseRange d a b) ∧ Turned [blk] w w' := by
  have hn := K.few
  obtain ⟨R, hR⟩ : ∃ R, Sort.reverseRange d a b = R := ⟨_, rfl⟩
  rw [hR]
  replace hR : Aside (Sort.reverseLoop a (b - 1) d = R) := hR
  have h0 := Sr.begin (lv := .func (.func g) #[] lb) (sv := .func (.func sf) #[] sb) K hS 96
  go_enter Try.func64, Try.ntmps64
  go_wp2_with fail
  generalize w.alloc (.cells #[.func (.func g) #[] lb, .func (.func sf) #[] sb] 96) = W0 at *
  go_loopw [6, 7] (fun t6 t7 wr => ∃ (i j : Nat) (dk : Array α), t6 = .int .i64 (i : Int) ∧ t7 = .int .i64 (j : Int) ∧ i ≤ j + 2 ∧ j < b ∧ Sr S blk w.heap.size (.func (.func g) #[] lb) (.func (.func sf) #[] sb) w wr dk ∧ Aside (Sort.reverseLoop i j dk = R)) (fun _ t7 _ => (Go.RowKit.intOf t7).toNat)
  case atStart => exact ⟨a, b - 1, d, rfl, by congr 1; omega, by omega, by omega, h0, hR⟩
  case round =>
    clear h0 hR
    obtain ⟨i, j, dk, rfl, rfl, hij, hjb, h, hO⟩ := hrel
    have c1 := h.c1
    by_cases hlt : i < j
    · replace hO := hO.out
      rw [rev_go hlt] at hO
      replace hO : Aside _ := hO
      have i1 : (i : Int) < (j : Int) := by omega
      obtain ⟨w3, hsw, h3⟩ := K.swapAt (i := (i : Int)) (j := (j : Int)) i j rfl rfl (by omega) (by omega) h
      go_wp2_with fail
      exact ⟨⟨i + 1, j - 1, _, by simp, by simp; omega, by omega, by omega, h3, hO⟩, by simp [Go.RowKit.intOf]; omega⟩
    · replace hO := hO.out
      rw [rev_end hlt] at hO
      subst hO
      have i1 : ¬ (i : Int) < (j : Int) := by omega
      go_wp2_with fail
      go_end0
      exact ⟨rfl, h.row, h.turned⟩
end Go.Proofs.Ytajondkpdgiolaa

/-! SORTS by a closure: choosePivot. -/
namespace Go.Proofs.Ytajondkpdgiolaa
open Go.RowKit
set_option maxRecDepth 8000
set_option linter.unusedSimpArgs false
set_option linter.unusedVariables false

def hintZ (s : Nat) : Int := if s = 0 then 1 else if s = 12 then 2 else 0
def rawP {α : Type} [Inhabited α] (lt : α → α → Bool) (d : Array α) (a q l : Nat) : Nat × Nat :=
  if l ≥ 50 then Sort.median lt d (Sort.medianAdjacent lt d (a + q) 0).1 (Sort.medianAdjacent lt d (a + q * 2) (Sort.medianAdjacent lt d (a + q) 0).2).1 (Sort.medianAdjacent lt d (a + q * 3) (Sort.medianAdjacent lt d (a + q * 2) (Sort.medianAdjacent lt d (a + q) 0).2).2).1 (Sort.medianAdjacent lt d (a + q * 3) (Sort.medianAdjacent lt d (a + q * 2) (Sort.medianAdjacent lt d (a + q) 0).2).2).2
  else Sort.median lt d (a + q) (a + q * 2) (a + q * 3) 0
theorem choose_eq {α : Type} [Inhabited α] (lt : α → α → Bool) (d : Array α) (a b : Nat) (h : 8 ≤ b - a) : Sort.choosePivot lt d a b = ((rawP lt d a ((b - a) / 4) (b - a)).1, if (rawP lt d a ((b - a) / 4) (b - a)).2 = 0 then Sort.Hint.increasing else if (rawP lt d a ((b - a) / 4) (b - a)).2 = 12 then .decreasing else .unknown) := by
  unfold Sort.choosePivot rawP
  simp only [Nat.mul_one, if_pos (show b - a ≥ 8 from h)]
theorem medadj_lt {α : Type} [Inhabited α] (lt : α → α → Bool) (d : Array α) (a s n : Nat) (h : a + 1 < n) : (Sort.medianAdjacent lt d a s).1 < n := median_lt lt d (a - 1) a (a + 1) s (by omega) (by omega) h
theorem medadj_count {α : Type} [Inhabited α] (lt : α → α → Bool) (d : Array α) (a s : Nat) : (Sort.medianAdjacent lt d a s).2 ≤ s + 3 := median_count lt d (a - 1) a (a + 1) s
set_option maxRecDepth 8000 in
set_option maxHeartbeats 4000000 in
theorem schoose_any {α : Type} [Inhabited α] {n g sf blk : Nat} {lb sb : Array Value} {lt : α → α → Bool} {S : World → Array α → Prop} (K : Srt n g sf lb sb lt blk S) (a b : Nat) (d : Array α) (w : World) (hS : S w d) (hab : 12 < b - a) (hb : b ≤ n) :
    Calls Try.prog 63 #[.agg #[.func (.func g) #[] lb, .func (.func sf) #[] sb], .int .i64 (a : Int), .int .i64 (b : Int)] w fun e w' => e = .returned (.tuple #[.int .i64 ((rawP lt d a ((b - a) / 4) (b - a)).1 : Int), .int .i64 (hintZ (rawP lt d a ((b - a) / 4) (b - a)).2)]) ∧ S w' d ∧ Below w.heap.size w w' := by
  have hn := K.few
  have hund := Try.underlying96
  have hsz : (Try.prog.info? 96).map (·.size) = some 2 := by kernel_rfl
  obtain ⟨l, hl⟩ : ∃ l, b - a = l := ⟨_, rfl⟩
  obtain ⟨q, hq⟩ : ∃ q, l / 4 = q := ⟨_, rfl⟩
  rw [hl, hq]
  obtain ⟨⟨X, MS⟩, hrw⟩ : ∃ r, rawP lt d a q l = r := ⟨_, rfl⟩
  rw [hrw]
  obtain ⟨Hz, hHz⟩ : ∃ z, hintZ MS = z := ⟨_, rfl⟩
  show Calls _ _ _ _ fun e w' => e = .returned (.tuple #[.int .i64 (X : Int), .int .i64 (hintZ MS)]) ∧ S w' d ∧ Below w.heap.size w w'
  rw [hHz]
  replace hHz : Aside (hintZ MS = Hz) := hHz
  replace hrw : Aside (rawP lt d a q l = (X, MS)) := hrw
  have eh : (b : Int) - (a : Int) = (l : Int) := by omega
  have e2 : (l : Int) / 4 = (q : Int) := by omega
  have e3 : (l : Int).tdiv 4 = (q : Int) := by rw [Int.tdiv_eq_ediv_of_nonneg (by omega)]; exact e2
  have i8 : (8 : Int) ≤ (l : Int) := by omega
  have hq1 : 1 ≤ q := by omega
  have hqn : a + q * 4 ≤ n := by omega
  have hb0 := blkl_alloc w #[.func (.func g) #[] lb, .func (.func sf) #[] sb] 96
  have hB0 := alloc_below w (.cells #[.func (.func g) #[] lb, .func (.func sf) #[] sb] 96)
  have hS0 := K.keep hS hB0
  obtain ⟨B, hB1, hB2⟩ := K.far
  go_enter Try.func63, Try.ntmps63
  go_upto_region 2 with fail
  generalize w.alloc (.cells #[.func (.func g) #[] lb, .func (.func sf) #[] sb] 96) = W0 at *
  have hc0 := blkl_alloc W0 #[.int .i64 0] 3
  have hB3 := alloc_below W0 (.cells #[.int .i64 0] 3)
  have hS1 := K.keep hS0 hB3
  have hb1 := stab_blk _ _ _ _ hb0 hB3
  have hcb : w.heap.size ≠ W0.heap.size := by have := hb0.2; omega
  have hcw : w.heap.size ≤ W0.heap.size := hB0.size
  have hT1 : Turned [W0.heap.size] w (W0.alloc (.cells #[.int .i64 0] 3)) := turned_below (Below.then hB0 hB3)
  have hk : ∀ {w w' : World}, S w d → (∀ k, k ≠ W0.heap.size → w'.heap[k]? = w.heap[k]?) → S w' d := fun q1 q2 => hB2 q1 fun k hk => q2 k (by have := hB1 hS0; omega)
  replace hc0 : BlkL W0.heap.size [.int .i64 ((0 : Nat) : Int)] (W0.alloc (.cells #[.int .i64 0] 3)) := hc0
  clear hS0 hb0 hB0 hB3 hB1 hB2
  have hr1 := hb1.range
  replace hrw := hrw.out
  unfold rawP at hrw
  by_cases h50 : l ≥ 50
  · rw [if_pos h50] at hrw
    have i50 : (50 : Int) ≤ (l : Int) := by omega
    have k1 := fun W q1 q2 => smedadj_any (cb := W0.heap.size) K (a + q) 0 d W q1 q2 hk (by omega) (by omega) (by omega)
    have l1 := medadj_lt lt d (a + q) 0 n (by omega)
    have m1 := medadj_count lt d (a + q) 0
    generalize Sort.medianAdjacent lt d (a + q) 0 = r1 at *
    obtain ⟨x1, s1⟩ := r1
    simp only at k1 l1 m1 hrw
    have k2 := fun W q1 q2 => smedadj_any (cb := W0.heap.size) K (a + q * 2) s1 d W q1 q2 hk (by omega) (by omega) (by omega)
    have l2 := medadj_lt lt d (a + q * 2) s1 n (by omega)
    have m2 := medadj_count lt d (a + q * 2) s1
    generalize Sort.medianAdjacent lt d (a + q * 2) s1 = r2 at *
    obtain ⟨x2, s2⟩ := r2
    simp only at k2 l2 m2 hrw
    have k3 := fun W q1 q2 => smedadj_any (cb := W0.heap.size) K (a + q * 3) s2 d W q1 q2 hk (by omega) (by omega) (by omega)
    have l3 := medadj_lt lt d (a + q * 3) s2 n (by omega)
    have m3 := medadj_count lt d (a + q * 3) s2
    generalize Sort.medianAdjacent lt d (a + q * 3) s2 = r3 at *
    obtain ⟨x3, s3⟩ := r3
    simp only at k3 l3 m3 hrw
    have k4 := fun W q1 q2 => smedian_any (cb := W0.heap.size) K x1 x2 x3 s3 d W q1 q2 hk l1 l2 l3 (by omega)
    rw [hrw] at k4
    simp only at k4
    clear hrw
    rw [show ((a + q : Nat) : Int) = (a : Int) + (q : Int) by omega] at k1
    rw [show ((a + q * 2 : Nat) : Int) = (a : Int) + (q : Int) * 2 by omega] at k2
    rw [show ((a + q * 3 : Nat) : Int) = (a : Int) + (q : Int) * 3 by omega] at k3
    go_upto_region 8 with fail
    generalize W0.alloc (.cells #[.int .i64 0] 3) = Z at *
    generalize W0.heap.size = cb at *
    go_wp2_with (first | (refine wpList_load_row rfl _ rfl w.heap.size rfl [.func (.func g) #[] lb, .func (.func sf) #[] sb] hr1 hund rfl hsz ?_) | fail)
    refine (k1 _ hS1 hc0).mono ?_
    rintro e W1 ⟨rfl, hS2, hc2, hT2⟩
    have hb2 := hT2.blk hb1 (by simpa using hcb)
    have hr2 := hb2.range
    have hT12 := hT1.trans hT2
    clear hS1 hc0 hr1 hT1 hT2 hb1
    go_wp2_with (first | (refine wpList_load_row rfl _ rfl w.heap.size rfl [.func (.func g) #[] lb, .func (.func sf) #[] sb] hr2 hund rfl hsz ?_) | fail)
    refine (k2 _ hS2 hc2).mono ?_
    rintro e W2 ⟨rfl, hS3, hc3, hT3⟩
    have hb3 := hT3.blk hb2 (by simpa using hcb)
    have hr3 := hb3.range
    have hT13 := hT12.trans hT3
    clear hS2 hc2 hr2 hT12 hT3 hb2
    go_wp2_with (first | (refine wpList_load_row rfl _ rfl w.heap.size rfl [.func (.func g) #[] lb, .func (.func sf) #[] sb] hr3 hund rfl hsz ?_) | fail)
    refine (k3 _ hS3 hc3).mono ?_
    rintro e W3 ⟨rfl, hS4, hc4, hT4⟩
    have hb4 := hT4.blk hb3 (by simpa using hcb)
    have hr4 := hb4.range
    have hT14 := hT13.trans hT4
    clear hS3 hc3 hr3 hT13 hT4 hb3
    go_wp2_with (first | (refine wpList_load_row rfl _ rfl w.heap.size rfl [.func (.func g) #[] lb, .func (.func sf) #[] sb] hr4 hund rfl hsz ?_) | fail)
    refine (k4 _ hS4 hc4).mono ?_
    rintro e W9 ⟨rfl, hS9, hc9, hT9⟩
    have hT := hT14.trans hT9
    have hBf : Below w.heap.size w W9 := hT.below (fun k hk => by simp at hk; omega) (Nat.le_refl _)
    have c9 := (hc9.1 0 _ rfl).1
    clear hS4 hc4 hr4 hT14 hT9 hT
    replace hHz := hHz.out
    unfold hintZ at hHz
    by_cases hz0 : MS = 0
    · rw [if_pos hz0] at hHz
      subst hz0 hHz
      go_wp2_with fail
      go_ret2
      exact ⟨rfl, hS9, hBf⟩
    rw [if_neg hz0] at hHz
    by_cases hz12 : MS = 12
    · rw [if_pos hz12] at hHz
      subst hz12 hHz
      go_wp2_with fail
      go_ret2
      exact ⟨rfl, hS9, hBf⟩
    · rw [if_neg hz12] at hHz
      subst hHz
      have i8 : ((MS : Int) == 0) = false := by simp; omega
      have i9 : ((MS : Int) == 12) = false := by simp; omega
      go_wp2_with fail
      go_ret2
      exact ⟨rfl, hS9, hBf⟩
  · rw [if_neg h50] at hrw
    have i50 : ¬ (50 : Int) ≤ (l : Int) := by omega
    have k4 := fun W q1 q2 => smedian_any (cb := W0.heap.size) K (a + q) (a + q * 2) (a + q * 3) 0 d W q1 q2 hk (by omega) (by omega) (by omega) (by omega)
    rw [hrw] at k4
    simp only at k4
    clear hrw
    rw [show ((a + q : Nat) : Int) = (a : Int) + (q : Int) by omega, show ((a + q * 2 : Nat) : Int) = (a : Int) + (q : Int) * 2 by omega, show ((a + q * 3 : Nat) : Int) = (a : Int) + (q : Int) * 3 by omega] at k4
    go_upto_region 11 with fail
    generalize W0.alloc (.cells #[.int .i64 0] 3) = Z at *
    generalize W0.heap.size = cb at *
    go_wp2_with (first | (refine wpList_load_row rfl _ rfl w.heap.size rfl [.func (.func g) #[] lb, .func (.func sf) #[] sb] hr1 hund rfl hsz ?_) | fail)
    refine (k4 _ hS1 hc0).mono ?_
    rintro e W9 ⟨rfl, hS9, hc9, hT9⟩
    have hT := hT1.trans hT9
    have hBf : Below w.heap.size w W9 := hT.below (fun k hk => by simp at hk; omega) (Nat.le_refl _)
    have c9 := (hc9.1 0 _ rfl).1
    clear hS1 hc0 hr1 hT1 hT9 hT
    replace hHz := hHz.out
    unfold hintZ at hHz
    by_cases hz0 : MS = 0
    · rw [if_pos hz0] at hHz
      subst hz0 hHz
      go_wp2_with fail
      go_ret2
      exact ⟨rfl, hS9, hBf⟩
    rw [if_neg hz0] at hHz
    by_cases hz12 : MS = 12
    · rw [if_pos hz12] at hHz
      subst hz12 hHz
      go_wp2_with fail
      go_ret2
      exact ⟨rfl, hS9, hBf⟩
    · rw [if_neg hz12] at hHz
      subst hHz
      have i8 : ((MS : Int) == 0) = false := by simp; omega
      have i9 : ((MS : Int) == 12) = false := by simp; omega
      go_wp2_with fail
      go_ret2
      exact ⟨rfl, hS9, hBf⟩
end Go.Proofs.Ytajondkpdgiolaa

/-! SORTS by a closure: pdqsort. -/
namespace Go.Proofs.Ytajondkpdgiolaa
open Go.RowKit
set_option maxRecDepth 8000
set_option linter.unusedSimpArgs false
set_option linter.unusedVariables false

section
variable {α : Type} [Inhabited α] {lt : α → α → Bool} {d d1 d2 d3 d4 : Array α} {a b lim l1 X pv mid : Nat} {wb wp A ap : Bool} {H H2 : Sort.Hint}
theorem pdq_round (h12 : ¬ b - a ≤ 12) (h0 : ¬ lim = 0) (hd1 : (if !wb then Sort.breakPatterns d a b else d) = d1) (hl1 : (if !wb then lim - 1 else lim) = l1) (hc : Sort.choosePivot lt d1 a b = (X, H))
    (hd2 : (if H = .decreasing then Sort.reverseRange d1 a b else d1) = d2) (hpv : (if H = .decreasing then (b - 1) - (X - a) else X) = pv) (hH : (if H = .decreasing then Sort.Hint.increasing else H) = H2)
    (hpi : (if wb && wp && H2 = .increasing then Sort.partialInsertionSort lt d2 a b else (d2, false)) = (d3, A)) :
    Sort.pdq lt d a b lim wb wp = if A then d3 else if a > 0 && !lt d3[a - 1]! d3[pv]! then
      (match Sort.partitionEqual lt d3 a b pv with | (mid, d4) => if _h : a < mid ∧ mid ≤ b then Sort.pdq lt d4 mid b l1 wb wp else d4) else
      (match Sort.partition lt d3 a b pv with | (mid, ap, d4) => if _h : a ≤ mid ∧ mid < b then
        (if mid - a < b - mid then (Sort.pdq lt (Sort.pdq lt d4 a mid l1 true true) (mid + 1) b l1 (decide (mid - a ≥ (b - a) / 8)) ap) else (Sort.pdq lt (Sort.pdq lt d4 (mid + 1) b l1 true true) a mid l1 (decide (b - mid ≥ (b - a) / 8)) ap)) else d4) := by
  rw [Sort.pdq]
  simp only [if_neg h12, if_neg h0, hd1, hl1, hc, hd2, hpv, hH, hpi]
theorem pdq_eqs (he : Sort.partitionEqual lt d3 a b pv = (mid, d4)) (h1 : a < mid) (h2 : mid ≤ b) : (match Sort.partitionEqual lt d3 a b pv with | (mid, d4) => if _h : a < mid ∧ mid ≤ b then Sort.pdq lt d4 mid b l1 wb wp else d4) = Sort.pdq lt d4 mid b l1 wb wp := by
  rw [he]
  exact dif_pos ⟨h1, h2⟩
theorem pdq_parts (he : Sort.partition lt d3 a b pv = (mid, ap, d4)) (h1 : a ≤ mid) (h2 : mid < b) : (match Sort.partition lt d3 a b pv with | (mid, ap, d4) => if _h : a ≤ mid ∧ mid < b then
        (if mid - a < b - mid then (Sort.pdq lt (Sort.pdq lt d4 a mid l1 true true) (mid + 1) b l1 (decide (mid - a ≥ (b - a) / 8)) ap) else (Sort.pdq lt (Sort.pdq lt d4 (mid + 1) b l1 true true) a mid l1 (decide (b - mid ≥ (b - a) / 8)) ap)) else d4) = (if mid - a < b - mid then (Sort.pdq lt (Sort.pdq lt d4 a mid l1 true true) (mid + 1) b l1 (decide (mid - a ≥ (b - a) / 8)) ap) else (Sort.pdq lt (Sort.pdq lt d4 (mid + 1) b l1 true true) a mid l1 (decide (b - mid ≥ (b - a) / 8)) ap)) := by
  rw [he]
  exact dif_pos ⟨h1, h2⟩
theorem parteq_range (hap : a ≤ pv) (hpb : pv < b) (hb : b ≤ d.size) : a < (Sort.partitionEqual lt d a b pv).1 ∧ (Sort.partitionEqual lt d a b pv).1 ≤ b := by
  have h := Sort.partEqLoop_spec lt a b _ (a + 1) (b - 1) (Sort.swp d a pv) (Nat.le_refl _) (Nat.lt_succ_self a) (by omega) (by omega) (by rw [Sort.size_swp]; exact hb) (fun t h1 h2 => by omega) (fun t h1 h2 => by omega)
  exact ⟨h.1, h.2.1⟩
/-- Go's number of a hint. -/
def hintN : Sort.Hint → Int
  | .unknown => 0
  | .increasing => 1
  | .decreasing => 2
theorem choose_two (h : 12 < b - a) : ∃ X H, Sort.choosePivot lt d a b = (X, H) ∧ X = (rawP lt d a ((b - a) / 4) (b - a)).1 ∧ hintN H = hintZ (rawP lt d a ((b - a) / 4) (b - a)).2 ∧ a ≤ X ∧ X < b := by
  have hr := Sort.choosePivot_holds lt d a b (by omega)
  rw [choose_eq lt d a b (by omega)] at hr ⊢
  refine ⟨_, _, rfl, rfl, ?_, hr.1, hr.2⟩
  unfold hintZ
  split
  · rfl
  · split <;> rfl
end
set_option maxRecDepth 16000 in
set_option maxHeartbeats 16000000 in
theorem spdq_any {α : Type} [Inhabited α] {n g sf blk : Nat} {lb sb : Array Value} {lt : α → α → Bool} {S : World → Array α → Prop} (K : Srt n g sf lb sb lt blk S) (hSWO : Sort.SWO lt) : ∀ (m a b lim : Nat) (d : Array α) (w : World), b - a ≤ m → S w d → a ≤ b → b ≤ n → lim ≤ 1000 →
    Calls Try.prog 48 #[.agg #[.func (.func g) #[] lb, .func (.func sf) #[] sb], .int .i64 (a : Int), .int .i64 (b : Int), .int .i64 (lim : Int)] w fun e w' => e = .returned (.tuple #[]) ∧ S w' (Sort.pdq lt d a b lim true true) ∧ Turned [blk] w w' := by
  intro m
  induction m using Nat.strongRecOn with
  | _ m ih =>
  intro a b lim d w hm hS hab hb hlim
  have eg := K.enter
  have hn := K.few
  have hund := Try.underlying96
  have hsz : (Try.prog.info? 96).map (·.size) = some 2 := by kernel_rfl
  obtain ⟨R, hR⟩ : ∃ R, Sort.pdq lt d a b lim true true = R := ⟨_, rfl⟩
  rw [hR]
  replace hR : Aside (Sort.pdq lt d a b lim true true = R) := hR
  have h0 := Sr.begin (lv := .func (.func g) #[] lb) (sv := .func (.func sf) #[] sb) K hS 96
  go_enter Try.func48, Try.ntmps48
  go_wp2_with fail
  generalize w.alloc (.cells #[.func (.func g) #[] lb, .func (.func sf) #[] sb] 96) = W0 at *
  go_loopw [1, 2, 3, 8, 9] (fun t1 t2 t3 t8 t9 wr => ∃ (p q l : Nat) (wb wp : Bool) (dk : Array α), t1 = .int .i64 (p : Int) ∧ t2 = .int .i64 (q : Int) ∧ t3 = .int .i64 (l : Int) ∧ t8 = .bool wb ∧ t9 = .bool wp ∧ p ≤ q ∧ q ≤ n ∧ q - p ≤ m ∧ l ≤ 1000 ∧ Sr S blk w.heap.size (.func (.func g) #[] lb) (.func (.func sf) #[] sb) w wr dk ∧ Aside (Sort.pdq lt dk p q l wb wp = R)) (fun t1 t2 _ _ _ _ => (Go.RowKit.intOf t2 - Go.RowKit.intOf t1).toNat)
  case atStart => exact ⟨a, b, lim, true, true, d, rfl, rfl, rfl, rfl, rfl, hab, hb, hm, hlim, h0, hR⟩
  case round =>
    clear h0 hR hm hab hb hlim hS
    obtain ⟨p, q, l, wb, wp, dk, rfl, rfl, rfl, rfl, rfl, hpq, hqn, hm, hl, h, hO⟩ := hrel
    obtain ⟨z, hz⟩ : ∃ z, q - p = z := ⟨_, rfl⟩
    have ez : (q : Int) - (p : Int) = (z : Int) := by omega
    have hrr := h.box.range
    by_cases h12 : q - p ≤ 12
    · have hR2 := hO.out
      rw [Sort.pdq, if_pos h12] at hR2
      have i1 : (z : Int) ≤ 12 := by omega
      replace hR2 : Aside _ := hR2
      clear hO
      go_wp2_with (first | (refine wpList_load_row rfl _ rfl w.heap.size rfl [.func (.func g) #[] lb, .func (.func sf) #[] sb] hrr hund rfl hsz ?_) | (go_at_call 60; refine (sins_any K p q dk wr h.row hpq hqn).mono ?_; rintro e w1 ⟨rfl, hS1, hT1⟩))
      refine bodyPost_ret (results_none rfl _ _ _) rfl ?_
      exact ⟨rfl, by rw [← hR2.out]; exact hS1, h.turned.trans hT1⟩
    have i1 : ¬ (z : Int) ≤ 12 := by omega
    by_cases hl0 : l = 0
    · have hR2 := hO.out
      rw [Sort.pdq, if_neg h12, if_pos hl0] at hR2
      subst hl0
      replace hR2 : Aside _ := hR2
      clear hO
      go_wp2_with (first | (refine wpList_load_row rfl _ rfl w.heap.size rfl [.func (.func g) #[] lb, .func (.func sf) #[] sb] hrr hund rfl hsz ?_) | (go_at_call 61; refine (sheap_any K p q dk wr h.row (by omega) hqn).mono ?_; rintro e w1 ⟨rfl, hS1, hT1⟩))
      refine bodyPost_ret (results_none rfl _ _ _) rfl ?_
      exact ⟨rfl, by rw [← hR2.out]; exact hS1, h.turned.trans hT1⟩
    have i2 : ((l : Int) == 0) = false := by simp; omega
    obtain ⟨d1, hd1⟩ : ∃ d1, (if !wb then Sort.breakPatterns dk p q else dk) = d1 := ⟨_, rfl⟩
    obtain ⟨l1, hl1⟩ : ∃ l1, (if !wb then l - 1 else l) = l1 := ⟨_, rfl⟩
    have hl1n : l1 ≤ 1000 := by rw [← hl1]; split <;> omega
    obtain ⟨X, H, hc, hX, hHz, hpX, hXq⟩ := choose_two (lt := lt) (d := d1) (a := p) (b := q) (by omega)
    obtain ⟨d2, hd2⟩ : ∃ d2, (if H = .decreasing then Sort.reverseRange d1 p q else d1) = d2 := ⟨_, rfl⟩
    obtain ⟨pv, hpv⟩ : ∃ pv, (if H = .decreasing then (q - 1) - (X - p) else X) = pv := ⟨_, rfl⟩
    obtain ⟨H2, hH2⟩ : ∃ H2, (if H = .decreasing then Sort.Hint.increasing else H) = H2 := ⟨_, rfl⟩
    obtain ⟨⟨d3, A⟩, hpi⟩ : ∃ r, (if wb && wp && H2 = .increasing then Sort.partialInsertionSort lt d2 p q else (d2, false)) = r := ⟨_, rfl⟩
    have hO2 := hO.out
    rw [pdq_round h12 hl0 hd1 hl1 hc hd2 hpv hH2 hpi] at hO2
    replace hO2 : Aside _ := hO2
    have hpvr : p ≤ pv ∧ pv < q := by rw [← hpv]; split <;> omega
    replace hd1 : Aside _ := hd1
    replace hl1 : Aside _ := hl1
    replace hd2 : Aside _ := hd2
    replace hpv : Aside _ := hpv
    replace hH2 : Aside _ := hH2
    replace hpi : Aside _ := hpi
    replace hc : Aside _ := hc
    replace hz : Aside _ := hz
    clear hO
    go_upto_if 35 with fail
    clear i1 i2
    go_cut [3] from 19 to 129 (fun s3 wc => s3 = .int .i64 (l1 : Int) ∧ Sr S blk w.heap.size (.func (.func g) #[] lb) (.func (.func sf) #[] sb) w wc d1)
    case first =>
      cases wb
      · have e1 : Sort.breakPatterns dk p q = d1 := hd1.out
        have e2 : l - 1 = l1 := hl1.out
        subst e1 e2
        have e3 : ((l - 1 : Nat) : Int) = (l : Int) - 1 := by omega
        go_wp2_with (first | (refine wpList_load_row rfl _ rfl w.heap.size rfl [.func (.func g) #[] lb, .func (.func sf) #[] sb] hrr hund rfl hsz ?_) | (go_at_call 62; refine (K.brk wr dk p q h.row hpq hqn).mono ?_; rintro e w1 ⟨rfl, hS1, hT1⟩))
        go_meet
        exact ⟨by rw [e3], h.swapped hS1 hT1⟩
      · have e1 : dk = d1 := hd1.out
        have e2 : l = l1 := hl1.out
        subst e1 e2
        go_wp2_with fail
        go_meet
        exact ⟨rfl, h⟩
    case rest =>
    clear h hrr
    obtain ⟨rfl, h⟩ := hcut
    have hrr := h.box.range
    have kc := schoose_any K p q d1 wc h.row (by omega) hqn
    rw [← hX, ← hHz] at kc
    clear hX hHz hd1 hl1 hl0 hl
    go_wp2_with (first | (refine wpList_load_row rfl _ rfl w.heap.size rfl [.func (.func g) #[] lb, .func (.func sf) #[] sb] hrr hund rfl hsz ?_) | fail)
    refine kc.mono ?_
    rintro e w1 ⟨rfl, hS1, hB1⟩
    replace h := h.below K hB1
    clear hS1 hB1 kc hrr
    have hrr := h.box.range
    go_upto_if 50 with fail
    go_cut [11, 12] from 19 to 129 (fun s11 s12 wc => s11 = .int .i64 (pv : Int) ∧ s12 = .int .i64 (hintN H2) ∧ Sr S blk w.heap.size (.func (.func g) #[] lb) (.func (.func sf) #[] sb) w wc d2)
    case first =>
      cases H
      · have e1 := hd2.out
        have e2 := hpv.out
        have e3 := hH2.out
        rw [if_neg (by decide)] at e1 e2 e3
        subst e1 e2 e3
        unfold hintN
        go_wp2_with fail
        go_meet
        exact ⟨rfl, rfl, h⟩
      · have e1 := hd2.out
        have e2 := hpv.out
        have e3 := hH2.out
        rw [if_neg (by decide)] at e1 e2 e3
        subst e1 e2 e3
        unfold hintN
        go_wp2_with fail
        go_meet
        exact ⟨rfl, rfl, h⟩
      · have e1 := hd2.out
        have e2 := hpv.out
        have e3 := hH2.out
        rw [if_pos rfl] at e1 e2 e3
        subst e1 e2 e3
        have e4 : ((q - 1 - (X - p) : Nat) : Int) = (q : Int) - 1 - ((X : Int) - (p : Int)) := by omega
        unfold hintN
        go_wp2_with (first | (refine wpList_load_row rfl _ rfl w.heap.size rfl [.func (.func g) #[] lb, .func (.func sf) #[] sb] hrr hund rfl hsz ?_) | (go_at_call 64; refine (srev_any K p q d1 _ h.row (by omega) hqn).mono ?_; rintro e w2 ⟨rfl, hS1, hT1⟩))
        go_meet
        exact ⟨by rw [e4], rfl, h.swapped hS1 hT1⟩
    case rest =>
    clear h hrr
    obtain ⟨rfl, rfl, h⟩ := hcut
    have hrr := h.box.range
    clear hd2 hpv hH2 hc hpX hXq
    obtain ⟨c, hcc⟩ : ∃ c : Bool, (wb && wp && decide (H2 = .increasing)) = c := ⟨_, rfl⟩
    replace hcc : Aside _ := hcc
    have hpi2 : Aside ((if c = true then Sort.partialInsertionSort lt d2 p q else (d2, false)) = (d3, A)) := by
      have e1 := hpi.out
      have e2 := hcc.out
      show (if c = true then _ else _) = _
      rw [← e1, ← e2]
    clear hpi
    go_upto_region 16 with fail
    go_cut [68] from 61 to 129 (fun s68 wx => s68 = .bool c ∧ wx = wc)
    case first =>
      cases wb
      · have e1 : false = c := hcc.out
        subst e1
        go_wp2_with fail
        go_meet
        exact ⟨rfl, rfl⟩
      cases wp
      · have e1 : false = c := hcc.out
        subst e1
        go_wp2_with fail
        go_meet
        exact ⟨rfl, rfl⟩
      cases H2
      · have e1 : false = c := hcc.out
        subst e1
        unfold hintN
        go_wp2_with fail
        go_meet
        exact ⟨rfl, rfl⟩
      · have e1 : true = c := hcc.out
        subst e1
        unfold hintN
        go_wp2_with fail
        go_meet
        exact ⟨rfl, rfl⟩
      · have e1 : false = c := hcc.out
        subst e1
        unfold hintN
        go_wp2_with fail
        go_meet
        exact ⟨rfl, rfl⟩
    case rest =>
    obtain ⟨rfl, hwx⟩ := hcut
    rename_i wx
    obtain rfl := hwx.symm
    go_upto_if 68 with fail
    go_cut [] from 61 to 129 (fun wx => A = false ∧ Sr S blk w.heap.size (.func (.func g) #[] lb) (.func (.func sf) #[] sb) w wx d3)
    case first =>
      cases c
      · have e1 : (d2, false) = (d3, A) := hpi2.out
        obtain ⟨e2, e3⟩ := Prod.mk.inj e1
        subst e2 e3
        go_wp2_with fail
        go_meet
        exact ⟨trivial, h⟩
      · have e1 : Sort.partialInsertionSort lt d2 p q = (d3, A) := hpi2.out
        have kp := spartial_any K p q d2 wc h.row (by omega) hqn
        rw [e1] at kp
        cases A
        · go_wp2_with (first | (refine wpList_load_row rfl _ rfl w.heap.size rfl [.func (.func g) #[] lb, .func (.func sf) #[] sb] hrr hund rfl hsz ?_) | (go_at_call 65; refine kp.mono ?_; rintro e w2 ⟨rfl, hS1, hT1⟩))
          go_meet
          exact ⟨trivial, h.swapped hS1 hT1⟩
        · have e4 := hO2.out
          rw [if_pos rfl] at e4
          subst e4
          go_wp2_with (first | (refine wpList_load_row rfl _ rfl w.heap.size rfl [.func (.func g) #[] lb, .func (.func sf) #[] sb] hrr hund rfl hsz ?_) | (go_at_call 65; refine kp.mono ?_; rintro e w2 ⟨rfl, hS1, hT1⟩))
          refine bodyPost_ret (results_none rfl _ _ _) rfl ?_
          exact ⟨rfl, hS1, h.turned.trans hT1⟩
    case rest =>
    clear h hrr hpi2
    obtain ⟨rfl, h⟩ := hcut
    have hrr := h.box.range
    have c0 := h.c0
    have hO3 := hO2.out
    rw [if_neg (by decide)] at hO3
    clear hO2
    obtain ⟨c2, hc2⟩ : ∃ c2 : Bool, (decide (p > 0) && !lt d3[p - 1]! d3[pv]!) = c2 := ⟨_, rfl⟩
    rw [hc2] at hO3
    replace hO3 : Aside _ := hO3
    replace hc2 : Aside _ := hc2
    have hds := K.size h.row
    go_upto_region 18 with fail
    go_cut [83] from 61 to 129 (fun s83 wx => s83 = .bool c2 ∧ Sr S blk w.heap.size (.func (.func g) #[] lb) (.func (.func sf) #[] sb) w wx d3)
    case first =>
      by_cases hp0 : 0 < p
      · have i3 : (0 : Int) < (p : Int) := by omega
        have e1 := hc2.out
        rw [decide_eq_true (show p > 0 from hp0), Bool.true_and] at e1
        cases hl1 : lt d3[p - 1]! d3[pv]!
        · rw [hl1] at e1
          subst e1
          go_wp2_with (go_at_fn g; refine (K.lessAt (p - 1) pv (by omega) rfl (by omega) (by omega) h.row hl1).mono ?_; rintro e w2 ⟨rfl, hb1⟩; have h1 := h.below K hb1)
          go_meet
          exact ⟨rfl, h1⟩
        · rw [hl1] at e1
          subst e1
          go_wp2_with (go_at_fn g; refine (K.lessAt (p - 1) pv (by omega) rfl (by omega) (by omega) h.row hl1).mono ?_; rintro e w2 ⟨rfl, hb1⟩; have h1 := h.below K hb1)
          go_meet
          exact ⟨rfl, h1⟩
      · have i3 : ¬ (0 : Int) < (p : Int) := by omega
        have e1 := hc2.out
        rw [decide_eq_false (show ¬ p > 0 from hp0), Bool.false_and] at e1
        subst e1
        go_wp2_with fail
        go_meet
        exact ⟨rfl, h⟩
    case rest =>
    clear h hrr c0 hc2
    obtain ⟨rfl, h⟩ := hcut
    have hrr := h.box.range
    replace hO3 := hO3.out
    cases c2
    · rw [if_neg (by decide)] at hO3
      obtain ⟨⟨mid, ap, d4⟩, he⟩ : ∃ r, Sort.partition lt d3 p q pv = r := ⟨_, rfl⟩
      have hrg := Sort.partition_holds lt hSWO d3 p q pv hpvr.1 hpvr.2 (by omega)
      have kp := fun W (hW : S W d3) => spart_any K p q pv d3 W hW hpvr.1 hpvr.2 hqn
      rw [he] at hrg kp
      have hr1 : p ≤ mid := hrg.1
      have hr2 : mid < q := hrg.2.1
      replace hO3 := (pdq_parts (l1 := l1) he hr1 hr2).symm.trans hO3
      clear hrg he
      simp only at kp
      by_cases hlr : mid - p < q - mid
      · rw [if_pos hlr] at hO3
        have ed : decide (mid - p ≥ (q - p) / 8) = decide ((z : Int) / 8 ≤ (mid : Int) - (p : Int)) := decide_eq_decide.2 (by have := hz.out; omega)
        rw [ed] at hO3
        replace hO3 : Aside _ := hO3
        have i4 : (mid : Int) - (p : Int) < (q : Int) - (mid : Int) := by omega
        have e8 : (z : Int).tdiv 8 = (z : Int) / 8 := Int.tdiv_eq_ediv_of_nonneg (by omega)
        go_wp2_with (first | (refine wpList_load_row rfl _ rfl w.heap.size rfl [.func (.func g) #[] lb, .func (.func sf) #[] sb] hrr hund rfl hsz ?_) | fail)
        refine (kp _ h.row).mono ?_
        rintro e w2 ⟨rfl, hS2, hT2⟩
        have h2 := h.swapped hS2 hT2
        have hr2' := h2.box.range
        have kr := ih (mid - p) (by omega) p mid l1 d4 w2 (Nat.le_refl _) h2.row hr1 (by omega) hl1n
        clear kp hrr
        go_wp2_with (first | (refine wpList_load_row rfl _ rfl w.heap.size rfl [.func (.func g) #[] lb, .func (.func sf) #[] sb] hr2' hund rfl hsz ?_) | (go_at_call 48; refine kr.mono ?_; rintro e w3 ⟨rfl, hS3, hT3⟩))
        exact ⟨⟨mid + 1, q, l1, _, ap, _, by simp, rfl, rfl, rfl, rfl, by omega, hqn, by omega, hl1n, h2.swapped hS3 hT3, hO3⟩, by simp [Go.RowKit.intOf]; omega⟩
      · rw [if_neg hlr] at hO3
        have ed : decide (q - mid ≥ (q - p) / 8) = decide ((z : Int) / 8 ≤ (q : Int) - (mid : Int)) := decide_eq_decide.2 (by have := hz.out; omega)
        rw [ed] at hO3
        replace hO3 : Aside _ := hO3
        have i4 : ¬ (mid : Int) - (p : Int) < (q : Int) - (mid : Int) := by omega
        have e8 : (z : Int).tdiv 8 = (z : Int) / 8 := Int.tdiv_eq_ediv_of_nonneg (by omega)
        go_wp2_with (first | (refine wpList_load_row rfl _ rfl w.heap.size rfl [.func (.func g) #[] lb, .func (.func sf) #[] sb] hrr hund rfl hsz ?_) | fail)
        refine (kp _ h.row).mono ?_
        rintro e w2 ⟨rfl, hS2, hT2⟩
        have h2 := h.swapped hS2 hT2
        have hr2' := h2.box.range
        have kr := ih (q - (mid + 1)) (by omega) (mid + 1) q l1 d4 w2 (Nat.le_refl _) h2.row (by omega) hqn hl1n
        rw [show ((mid + 1 : Nat) : Int) = (mid : Int) + 1 by omega] at kr
        clear kp hrr
        go_wp2_with (first | (refine wpList_load_row rfl _ rfl w.heap.size rfl [.func (.func g) #[] lb, .func (.func sf) #[] sb] hr2' hund rfl hsz ?_) | (go_at_call 48; refine kr.mono ?_; rintro e w3 ⟨rfl, hS3, hT3⟩))
        exact ⟨⟨p, mid, l1, _, ap, _, rfl, rfl, rfl, rfl, rfl, hr1, by omega, by omega, hl1n, h2.swapped hS3 hT3, hO3⟩, by simp [Go.RowKit.intOf]; omega⟩
    · rw [if_pos rfl] at hO3
      obtain ⟨⟨mid, d4⟩, he⟩ : ∃ r, Sort.partitionEqual lt d3 p q pv = r := ⟨_, rfl⟩
      have hrg := parteq_range (lt := lt) (d := d3) hpvr.1 hpvr.2 (by omega)
      have kp := fun W (hW : S W d3) => sparteq_any K p q pv d3 W hW hpvr.1 hpvr.2 hqn
      rw [he] at hrg kp
      have hr1 : p < mid := hrg.1
      have hr2 : mid ≤ q := hrg.2
      replace hO3 := (pdq_eqs (l1 := l1) (wb := wb) (wp := wp) he hr1 hr2).symm.trans hO3
      replace hO3 : Aside _ := hO3
      clear hrg he
      simp only at kp
      go_wp2_with (first | (refine wpList_load_row rfl _ rfl w.heap.size rfl [.func (.func g) #[] lb, .func (.func sf) #[] sb] hrr hund rfl hsz ?_) | (go_at_call 66; refine (kp _ h.row).mono ?_; rintro e w2 ⟨rfl, hS2, hT2⟩))
      exact ⟨⟨mid, q, l1, wb, wp, d4, rfl, rfl, rfl, rfl, rfl, hr2, hqn, by omega, hl1n, h.swapped hS2 hT2, hO3⟩, by simp [Go.RowKit.intOf]; omega⟩
end Go.Proofs.Ytajondkpdgiolaa

/-! sort.Slice AT THIS PROGRAM: the library of contracts laid in plain words. -/
namespace Go.Proofs.Ytajondkpdgiolaa
open Go.RowKit Go.Shelf
def laysSlice_ren : Go.Shelf.Ren := ⟨fun | 6 => 33 | 10 => 44 | 11 => 45 | 12 => 46 | 13 => 47 | 14 => 48 | 24 => 58 | 25 => 59 | 26 => 60 | 27 => 61 | 28 => 62 | 29 => 63 | 30 => 64 | 31 => 65 | 32 => 66 | 33 => 67 | 34 => 68 | 35 => 69 | 36 => 70 | 37 => 71 | 38 => 72 | 39 => 73 | n => n, fun | 20 => 20 | 26 => 75 | 35 => 87 | 0 => 0 | 37 => 89 | 3 => 3 | 41 => 93 | 44 => 96 | 49 => 101 | 51 => 103 | 4 => 4 | 54 => 106 | 53 => 105 | 58 => 110 | 5 => 5 | 9 => 9 | 60 => 112 | 64 => 116 | 66 => 118 | 67 => 119 | 17 => 17 | 32 => 84 | 33 => 85 | 82 => 134 | 12 => 12 | 75 => 127 | 76 => 128 | 77 => 129 | 78 => 130 | 79 => 131 | 80 => 132 | n => n, fun | n => n⟩
theorem laysSlice : Go.Proofs.LaysGg.n6 Try.prog laysSlice_ren := {
  mixed := by kernel_rfl
  f6 := Try.func33.trans (congrArg some (by kernel_rfl))
  f10 := Try.func44.trans (congrArg some (by kernel_rfl))
  f11 := Try.func45.trans (congrArg some (by kernel_rfl))
  f12 := Try.func46.trans (congrArg some (by kernel_rfl))
  f13 := Try.func47.trans (congrArg some (by kernel_rfl))
  f14 := Try.func48.trans (congrArg some (by kernel_rfl))
  f24 := Try.func58.trans (congrArg some (by kernel_rfl))
  f25 := Try.func59.trans (congrArg some (by kernel_rfl))
  f26 := Try.func60.trans (congrArg some (by kernel_rfl))
  f27 := Try.func61.trans (congrArg some (by kernel_rfl))
  f28 := Try.func62.trans (congrArg some (by kernel_rfl))
  f29 := Try.func63.trans (congrArg some (by kernel_rfl))
  f30 := Try.func64.trans (congrArg some (by kernel_rfl))
  f31 := Try.func65.trans (congrArg some (by kernel_rfl))
  f32 := Try.func66.trans (congrArg some (by kernel_rfl))
  f33 := Try.func67.trans (congrArg some (by kernel_rfl))
  f34 := Try.func68.trans (congrArg some (by kernel_rfl))
  f35 := Try.func69.trans (congrArg some (by kernel_rfl))
  f36 := Try.func70.trans (congrArg some (by kernel_rfl))
  f37 := Try.func71.trans (congrArg some (by kernel_rfl))
  f38 := Try.func72.trans (congrArg some (by kernel_rfl))
  f39 := Try.func73.trans (congrArg some (by kernel_rfl))
  t0 := Try.underlying0
  a0 := Try.isAgg0
  z0 := Try.sizeOf0
  v0 := Try.zeroValue0
  i0 := by kernel_rfl
  t3 := Try.underlying3
  a3 := Try.isAgg3
  z3 := Try.sizeOf3
  v3 := Try.zeroValue3
  i3 := by kernel_rfl
  t4 := Try.underlying4
  a4 := Try.isAgg4
  z4 := Try.sizeOf4
  v4 := Try.zeroValue4
  i4 := by kernel_rfl
  t5 := Try.underlying5
  a5 := Try.isAgg5
  z5 := Try.sizeOf5
  v5 := Try.zeroValue5
  i5 := by kernel_rfl
  t9 := Try.underlying9
  a9 := Try.isAgg9
  z9 := Try.sizeOf9
  v9 := Try.zeroValue9
  i9 := by kernel_rfl
  t12 := Try.underlying12
  a12 := Try.isAgg12
  z12 := Try.sizeOf12
  v12 := Try.zeroValue12
  i12 := by kernel_rfl
  t17 := Try.underlying17
  a17 := Try.isAgg17
  z17 := Try.sizeOf17
  v17 := Try.zeroValue17
  i17 := by kernel_rfl
  t20 := Try.underlying20
  a20 := Try.isAgg20
  z20 := Try.sizeOf20
  v20 := Try.zeroValue20
  i20 := by kernel_rfl
  t26 := Try.underlying75
  a26 := Try.isAgg75
  z26 := Try.sizeOf75
  v26 := Try.zeroValue75
  i26 := by kernel_rfl
  t32 := Try.underlying84
  a32 := Try.isAgg84
  z32 := Try.sizeOf84
  v32 := Try.zeroValue84
  i32 := by kernel_rfl
  t33 := Try.underlying85
  a33 := Try.isAgg85
  z33 := Try.sizeOf85
  v33 := Try.zeroValue85
  i33 := by kernel_rfl
  t35 := Try.underlying87
  a35 := Try.isAgg87
  z35 := Try.sizeOf87
  v35 := Try.zeroValue87
  i35 := by kernel_rfl
  t37 := Try.underlying89
  a37 := Try.isAgg89
  z37 := Try.sizeOf89
  v37 := Try.zeroValue89
  i37 := by kernel_rfl
  t41 := Try.underlying93
  a41 := Try.isAgg93
  z41 := Try.sizeOf93
  v41 := Try.zeroValue93
  i41 := by kernel_rfl
  t44 := Try.underlying96
  a44 := Try.isAgg96
  z44 := Try.sizeOf96
  v44 := Try.zeroValue96
  i44 := by kernel_rfl
  t49 := Try.underlying101
  a49 := Try.isAgg101
  z49 := Try.sizeOf101
  v49 := Try.zeroValue101
  i49 := by kernel_rfl
  t51 := Try.underlying103
  a51 := Try.isAgg103
  z51 := Try.sizeOf103
  v51 := Try.zeroValue103
  i51 := by kernel_rfl
  t53 := Try.underlying105
  a53 := Try.isAgg105
  z53 := Try.sizeOf105
  v53 := Try.zeroValue105
  i53 := by kernel_rfl
  t54 := Try.underlying106
  a54 := Try.isAgg106
  z54 := Try.sizeOf106
  v54 := Try.zeroValue106
  i54 := by kernel_rfl
  t58 := Try.underlying110
  a58 := Try.isAgg110
  z58 := Try.sizeOf110
  v58 := Try.zeroValue110
  i58 := by kernel_rfl
  t60 := Try.underlying112
  a60 := Try.isAgg112
  z60 := Try.sizeOf112
  v60 := Try.zeroValue112
  i60 := by kernel_rfl
  t64 := Try.underlying116
  a64 := Try.isAgg116
  z64 := Try.sizeOf116
  v64 := Try.zeroValue116
  i64 := by kernel_rfl
  t66 := Try.underlying118
  a66 := Try.isAgg118
  z66 := Try.sizeOf118
  v66 := Try.zeroValue118
  i66 := by kernel_rfl
  t67 := Try.underlying119
  a67 := Try.isAgg119
  z67 := Try.sizeOf119
  v67 := Try.zeroValue119
  i67 := by kernel_rfl
  t75 := Try.underlying127
  a75 := Try.isAgg127
  z75 := Try.sizeOf127
  v75 := Try.zeroValue127
  i75 := by kernel_rfl
  t76 := Try.underlying128
  a76 := Try.isAgg128
  z76 := Try.sizeOf128
  v76 := Try.zeroValue128
  i76 := by kernel_rfl
  t77 := Try.underlying129
  a77 := Try.isAgg129
  z77 := Try.sizeOf129
  v77 := Try.zeroValue129
  i77 := by kernel_rfl
  t78 := Try.underlying130
  a78 := Try.isAgg130
  z78 := Try.sizeOf130
  v78 := Try.zeroValue130
  i78 := by kernel_rfl
  t79 := Try.underlying131
  a79 := Try.isAgg131
  z79 := Try.sizeOf131
  v79 := Try.zeroValue131
  i79 := by kernel_rfl
  t80 := Try.underlying132
  a80 := Try.isAgg132
  z80 := Try.sizeOf132
  v80 := Try.zeroValue132
  i80 := by kernel_rfl
  t82 := Try.underlying134
  a82 := Try.isAgg134
  z82 := Try.sizeOf134
  v82 := Try.zeroValue134
  i82 := by kernel_rfl }
end Go.Proofs.Ytajondkpdgiolaa

/-! ARGUMENTS OPENED, FOR WHATEVER TYPES: a struct's fields, a row of elements, each read by a reader of its own. -/
namespace Go.Proofs.Ytajondkpdgiolaa
open Go.ChangeShapes Go.WideShapes Go.ChangeAt Go.RowKit
set_option maxRecDepth 8000
set_option linter.unusedVariables false
set_option linter.unusedSimpArgs false

theorem own : ownKnob Try.prog.godebug = none := by kernel_rfl
theorem laidOut : laidOutB Try.prog = true := by kernel_rfl
theorem int_fits {n : Int} (h : (Lit.int .i64 n).wf = true) : -9223372036854775808 ≤ n ∧ n ≤ 9223372036854775807 := by
  simpa [Lit.wf, IntKind.min, IntKind.max, IntKind.bits, IntKind.signed] using h
theorem nat_u64 {n : Int} (h : (Lit.int .u64 n).wf = true) : ∃ k : Nat, n = (k : Int) ∧ k < 18446744073709551616 := by
  have : 0 ≤ n ∧ n ≤ 18446744073709551615 := by simpa [Lit.wf, IntKind.min, IntKind.max, IntKind.bits, IntKind.signed] using h
  exact ⟨n.toNat, by omega, by omega⟩
theorem nat_u8 {n : Int} (h : (Lit.int .u8 n).wf = true) : ∃ k : Nat, n = (k : Int) ∧ k < 256 := by
  have : 0 ≤ n ∧ n ≤ 255 := by simpa [Lit.wf, IntKind.min, IntKind.max, IntKind.bits, IntKind.signed] using h
  exact ⟨n.toNat, by omega, by omega⟩
section
variable {H : Type} {enc : TypeId × Value → H} {W : World} {base : Nat} {sp : Nat → Bool} {held : Bool}
/-- What a reading of a type tells of its cells. -/
def Reads (enc : TypeId × Value → H) (W : World) (base : Nat) (sp : Nat → Bool) (held : Bool) (t : TypeId) (p : List Value → Prop) : Prop := ∀ (n : Nat) (cs : List Value) (x : DataW H × List MemPlace), DataW.trod enc Try.prog W base sp held n t cs = some x → p cs
theorem reads_int {t : TypeId} {k : IntKind} (ht : Try.prog.underlying t = some (.int k)) : Reads enc W base sp held t fun cs => ∃ n, cs = [.int k n] ∧ (Lit.int k n).wf = true := fun n cs x h => by
  obtain ⟨m, rfl, _, hw⟩ := DataW.trod_int ht h
  exact ⟨m, rfl, hw⟩
theorem reads_bool {t : TypeId} (ht : Try.prog.underlying t = some .bool) : Reads enc W base sp held t fun cs => ∃ b, cs = [.bool b] := fun n cs x h => by
  obtain ⟨b, rfl, _⟩ := DataW.trod_bool ht h
  exact ⟨b, rfl⟩
theorem reads_string {t : TypeId} (ht : Try.prog.underlying t = some .string) : Reads enc W base sp held t fun cs => ∃ s : ByteArray, cs = [.string s] ∧ s.size ≤ 9223372036854775807 := fun n cs x h => by
  obtain ⟨s, rfl, _, hs⟩ := DataW.trod_string ht h
  exact ⟨s, rfl, by simpa [maxLen] using hs⟩
/-- A field of a struct. -/
theorem read_field {t ty : TypeId} {i off sz : Nat} {p : List Value → Prop} (ht : Try.prog.underlying t = some (.struct (Try.prog.fieldsOf t))) (hf : ((Try.prog.fieldsOf t)[i]?).map (fun f => (f.type, f.offset)) = some (ty, off)) (hc : Try.prog.cellsOf ty = sz) (hp : Reads enc W base sp held ty p) {n : Nat} {cs : List Value} {x : DataW H × List MemPlace} (h : DataW.trod enc Try.prog W base sp held n t cs = some x) : p ((cs.drop off).take sz) := by
  obtain ⟨xs, m, _, _, _, hlen, hg⟩ := DataW.trod_struct ht h
  cases hfi : (Try.prog.fieldsOf t)[i]? with
  | none => rw [hfi] at hf; cases hf
  | some f =>
    rw [hfi] at hf
    have e : (f.type, f.offset) = (ty, off) := by simpa using hf
    have e1 : f.type = ty := congrArg Prod.fst e
    have e2 : f.offset = off := congrArg Prod.snd e
    have hh := hg i f hfi
    have hi : i < xs.length := by
      have := (Array.getElem?_eq_some_iff.1 hfi).1
      omega
    rw [List.getElem?_eq_getElem hi, e1, e2, hc] at hh
    exact hp _ _ _ hh
theorem struct_len {t : TypeId} {sz : Nat} (ht : Try.prog.underlying t = some (.struct (Try.prog.fieldsOf t))) (hc : Try.prog.cellsOf t = sz) {n : Nat} {cs : List Value} {x : DataW H × List MemPlace} (h : DataW.trod enc Try.prog W base sp held n t cs = some x) : cs.length = sz := by
  obtain ⟨xs, m, _, _, hl, _⟩ := DataW.trod_struct ht h
  rw [hl, hc]
theorem pick_all {α : Type} {len : Nat} {p : Nat → α → Prop} (h : ∀ i, i < len → ∃ g, p i g) : ∃ l : List α, l.length = len ∧ ∀ j g, l[j]? = some g → p j g := by
  by_cases h0 : len = 0
  · subst h0
    exact ⟨[], rfl, fun j g q => by cases q⟩
  haveI : Inhabited α := ⟨(h 0 (by omega)).choose⟩
  have h' : ∀ i, ∃ g, i < len → p i g := fun i => by
    by_cases hi : i < len
    · obtain ⟨g, hg⟩ := h i hi; exact ⟨g, fun _ => hg⟩
    · exact ⟨default, fun k => absurd k hi⟩
  obtain ⟨f, hf⟩ := Classical.axiomOfChoice h'
  refine ⟨(List.range len).map f, by simp, fun j g hg => ?_⟩
  have hj : j < len := by
    have := (List.getElem?_eq_some_iff.1 hg).1
    simpa using this
  simp [List.getElem?_range hj] at hg
  subst hg
  exact hf j hj
/-- A row of elements. -/
theorem open_rows {α : Type} {t e : TypeId} {sz : Nat} {f : α → List Value} {q : α → Prop} (ht : Try.prog.underlying t = some (.slice e)) (hc : Try.prog.cellsOf e = sz) (hp : Reads enc W 0 (fun _ => true) true e fun cs => ∃ g, cs = f g ∧ q g) {n : Nat} {a : Option Addr} {len cap : Nat} {x : DataW H × List MemPlace} (h : DataW.trod enc Try.prog W 0 (fun _ => true) true n t [.slice a len cap] = some x) :
    ∃ l : List α, l.length = len ∧ (∀ j g, l[j]? = some g → ∃ y, a = some y ∧ (∀ i, i < sz → W.cell? (y.add (j * sz + i)) = (f g)[i]?)) ∧ (∀ g ∈ l, q g) ∧ (a = none → cap = 0) ∧ len ≤ cap ∧ cap ≤ 9223372036854775807 := by
  rcases Go.Deep.open_slice ht h with ⟨hcs, _⟩ | ⟨ad, l, c, m, n', Dd, Pl, hcs, _, hl, hm, hmm, _, hx⟩
  · simp at hcs
    obtain ⟨rfl, rfl, rfl⟩ := hcs
    exact ⟨[], rfl, fun j g hg => by simp at hg, by simp, fun _ => rfl, Nat.le_refl _, by omega⟩
  · simp at hcs
    obtain ⟨rfl, rfl, rfl⟩ := hcs
    simp only [if_true] at hmm
    have each : ∀ i, i < len → ∃ g : α, (∀ k, k < sz → W.cell? (ad.add (i * sz + k)) = (f g)[k]?) ∧ q g := fun i hi => by
      obtain ⟨cs', h2, h3⟩ := hx i (by omega)
      rw [hc] at h2
      obtain ⟨_, hlen, hcell⟩ := World.cells?_some h2
      obtain ⟨g, rfl, hq⟩ := hp _ _ _ h3
      refine ⟨g, fun k hk => ?_, hq⟩
      have e0 := hcell k (by omega)
      rw [Go.Deep.add_add] at e0
      rw [e0]
    obtain ⟨L, hL, hpp⟩ := pick_all each
    refine ⟨L, hL, fun j g hg => ⟨ad, rfl, (hpp j g hg).1⟩, fun g hg => ?_, fun h => (by cases h), hl, by simpa [maxLen] using hm⟩
    obtain ⟨j, hj, rfl⟩ := List.getElem_of_mem hg
    exact (hpp j L[j] (List.getElem?_eq_getElem hj)).2
end
end Go.Proofs.Ytajondkpdgiolaa
