/-
  THE FIRST NODES: the document's own First (donjonref11). Written by mk_tfirst.py.
-/
import Derived.Test.YtajondkpdgiolaaTreePut
import Derived.Test.YtajondkpdgiolaaTreeGrow
import Derived.Test.YtajondkpdgiolaaChr
namespace Go.Proofs.Ytajondkpdgiolaa
open Go.RowKit
set_option maxRecDepth 8000
set_option linter.unusedSimpArgs false
set_option linter.unusedVariables false

def lrow (l : Lab) : List Value := [.int .i64 l.s, .int .i64 l.c, .int .i64 l.i, .int .i64 l.k]
theorem lab_ok : ElemOk 25 22 4 lrow :=
  ⟨Try.underlying22, by
    obtain ⟨i, h1, h2, h3, h4⟩ := info_of (e := 25) (z := .agg #[.int .i64 0, .int .i64 0, .int .i64 0, .int .i64 0]) (sz := 4) (b := 32) (by kernel_rfl)
    exact ⟨i, _, _, h1, h2, h3, h4, rfl, by omega⟩, by omega, fun _ => rfl, fun x u hu => by simp [lrow] at hu; rcases hu with rfl | rfl | rfl | rfl <;> rfl⟩
theorem rlbottom_any (w : World) :
    Calls Try.prog 36 #[] w fun e w' => e = .returned bottomL.v ∧ Below w.heap.size w w' := by
  go_enter Try.func36, Try.ntmps36
  go_wp2
  refine bodyPost_ret (v := bottomL.v) (by simp [results, Try.results36, go_sem, bottomL]) rfl ⟨rfl, (Below.refl _ _).alloc (Nat.le_refl _) _⟩
section
variable {ops : Array Oper} {o : Oper} {a : Act} {w : World} {Q : Exit → Act → World → Prop} {S : World → Prop}
/-- A load of one cell, in a region that draws. -/
theorem yields_cell {T : TypeId} (hw : Region.wanted o (yielded ops a.tmps) = true) (x : Operand) (ho : o.op = .load T x) (y : Addr) (hx : a.eval x = .pointer (some y)) (v : Value) (hS : ∀ w, S w → w.cell? y = some v) (hl : ∀ w y v, w.cell? y = some v → (Instr.loadAt T (.pointer (some y))).run Try.prog w = .ok v w) : YieldsIf Try.prog ops S o v a :=
  .inl ⟨hw, fun w hw' => by
    unfold execOp
    simp only [ho, hx, Sem.run_bind, hl w y v (hS w hw'), Result.andThen_ok]
    rfl⟩
theorem step_conv {t u : TypeId} {K : Act → World → Prop} {E : Prop} {v r : Value} (hg : o.guard = none) (x : Operand) (ho : o.op = .convert t u x) (hx : a.eval x = v) (hr : (convert t u v).run Try.prog w = .ok r w) (hK : K (a.put o.dst r) w) :
    if Region.wanted o (yielded ops a.tmps) = true then Oper.wp Try.prog o a w K Q else E := by
  have hw : Region.wanted o (yielded ops a.tmps) = true := by simp [Region.wanted, hg]
  rw [if_pos hw]
  unfold Oper.wp execOp
  simp only [ho, hx, Sem.run_bind, hr, Result.andThen_ok]
  exact hK
end
theorem slab_load (w : World) (y : Addr) (v : Value) (h : w.cell? y = some v) : (Instr.loadAt 22 (.pointer (some y))).run Try.prog w = .ok v w := by
  simp [go_sem, h]
def firstP (ts : List Lab) (i : Nat) (ag : Option Addr) : List PN := (firstTo ts i).map fun n => ⟨n, ag, 1, none, 0⟩
theorem firstP_len (ts : List Lab) (i : Nat) (ag : Option Addr) : (firstP ts i ag).length = (distTo ts i).length + 1 := by simp [firstP, firstTo]
theorem firstP_names (ts : List Lab) (i : Nat) (ag : Option Addr) : namesP (firstP ts i ag) = firstTo ts i := by
  unfold namesP firstP
  rw [List.map_map]
  exact List.map_id' _
theorem firstP_succ (ts : List Lab) (i : Nat) (ag : Option Addr) : firstP ts (i + 1) ag = if (ts.take i).any (fun t => labEq t (ts.getD i bottomL)) = true then firstP ts i ag else firstP ts i ag ++ [⟨dirN (distTo ts i).length (ts.getD i bottomL), ag, 1, none, 0⟩] := by
  unfold firstP
  rw [first_succ]
  split
  · rfl
  · simp
theorem dist_succ (ts : List Lab) (i : Nat) : (distTo ts (i + 1)).length = if (ts.take i).any (fun t => labEq t (ts.getD i bottomL)) = true then (distTo ts i).length else (distTo ts i).length + 1 := by
  rw [distTo]
  split <;> simp
theorem l_path (q : Nat) : (⟨#[47, 108]⟩ : ByteArray) ++ chr (48 + q) = ⟨#[47, 108, UInt8.ofNat (48 + q)]⟩ := by
  apply bytes_inj
  rw [bytes_append]
  rfl
theorem dir_cs (w : World) (q : Nat) (tt : Lab) : (PN.cs ⟨dirN q tt, some ⟨w.heap.size + 1, 0, none⟩, 1, none, 0⟩) = [.string (⟨#[47, 108]⟩ ++ chr (48 + q)), .bool true, .int .i64 tt.s, .int .i64 tt.c, .int .i64 tt.i, .int .i64 tt.k, .slice (some ⟨w.heap.size + 1, 0, none⟩) 1 1, .int .i64 0, .int .i64 0, .int .i64 0, .int .i64 0, .slice none 0 0, .int .i64 bottomL.s, .int .i64 bottomL.c, .int .i64 bottomL.i, .int .i64 bottomL.k] := by
  rw [l_path]
  rfl
theorem any_take {ts : List Lab} {j : Nat} {t : Lab} (h : ts[j]? = some t) (f : Lab → Bool) : (ts.take (j + 1)).any f = ((ts.take j).any f || f t) := by
  rw [List.take_add_one, h]
  simp
theorem own_one (x : PN) (W : World) {base : Nat} (hb : base ≤ W.heap.size) : OwnN (W.alloc (.cells x.cs.toArray 36)) base (.slice (some ⟨W.heap.size, 0, none⟩) 1 1) [x] := by
  refine ⟨by simp [pn_len], .inr ⟨W.heap.size, 1, x.cs.toArray, rfl, hb, heap_alloc_new W _, Nat.le_refl _, by simp only [maxLen]; omega, by simp [pn_len], ?_⟩⟩
  simp
  exact List.take_of_length_le (by rw [pn_len]; omega)
/-- Where First stands: the config's box, the list for all. -/
structure FsZ (w W : World) (ta : Option Addr) (n ct : Nat) : Prop where
  box : W.cell? ⟨w.heap.size, 0, none⟩ = some (.slice ta n ct)
  all : GrsAt W (some ⟨w.heap.size + 1, 0, none⟩) allG
  bl : Below w.heap.size w W
  sz : w.heap.size + 2 ≤ W.heap.size
section
variable {w W W' : World} {ta : Option Addr} {n ct : Nat}
theorem FsZ.grown (h : FsZ w W ta n ct) (b : Below (w.heap.size + 2) W W') : FsZ w W' ta n ct := by
  refine ⟨(b.cell (p := ⟨w.heap.size, 0, none⟩) (by show w.heap.size < w.heap.size + 2; omega)).trans h.box, fun j q hq => ?_, h.bl.trans (b.mono (by omega)), Nat.le_trans h.sz b.size⟩
  obtain ⟨y, hy, h1, h2⟩ := h.all j q hq
  obtain rfl := Option.some.inj hy
  have hb : ((⟨w.heap.size + 1, 0, none⟩ : Addr).add (j * 2)).block < w.heap.size + 2 := by rw [add_at]; show w.heap.size + 1 < _; omega
  exact ⟨_, rfl, (b.cell hb).trans h1, (b.cell (p := ⟨_, _, none⟩) hb).trans h2⟩
theorem FsZ.then (h : FsZ w W ta n ct) (b : Below W.heap.size W W') : FsZ w W' ta n ct := h.grown (b.mono h.sz)
theorem FsZ.lab {y : Addr} {ts : List Lab} (h : FsZ w W (some y) n ct) (hl : RowAt 4 lrow w (some y) ts) {j : Nat} {t : Lab} (ht : ts[j]? = some t) : CellsAt W (y.add (j * 4)) [.int .i64 t.s, .int .i64 t.c, .int .i64 t.i, .int .i64 t.k] := (hl.below lab_ok.len h.bl).at lab_ok.len ht
end
set_option maxRecDepth 20000 in
set_option maxHeartbeats 8000000 in
theorem rfirstT_any (ta : Option Addr) (ct : Nat) (ts : List Lab) (ua ra : Option Addr) (nu cu nr cr : Nat) (hn9 : ts.length ≤ 9) (w : World) (hl : RowAt 4 lrow w ta ts) :
    Calls Try.prog 22 #[.agg #[.slice ta ts.length ct, .slice ua nu cu, .slice ra nr cr]] w fun e w' => ∃ v, e = .returned v ∧ OwnN w' w.heap.size v (firstP ts ts.length (some ⟨w.heap.size + 1, 0, none⟩)) ∧ GrsAt w' (some ⟨w.heap.size + 1, 0, none⟩) allG ∧ Below w.heap.size w w' := by
  have hsl : (Try.prog.info? 25).map (·.size) = some 4 := by kernel_rfl
  have heq := run_eql_lab
  obtain ⟨n, hn⟩ : ∃ n, ts.length = n := ⟨_, rfl⟩
  rw [hn] at hn9 ⊢
  replace hn : Aside (ts.length = n) := hn
  have hdl := dist_len ts
  have h0 : FsZ w ((w.alloc (.cells #[.slice ta n ct, .slice ua nu cu, .slice ra nr cr] 54)).alloc (.cells #[.string ⟨#[42]⟩, .int .i64 7] 77)) ta n ct := by
    have b1 := alloc_below w (.cells #[.slice ta n ct, .slice ua nu cu, .slice ra nr cr] 54)
    have m1 := blk_alloc w #[.slice ta n ct, .slice ua nu cu, .slice ra nr cr] 54
    have s1 := World.size_alloc w (.cells #[.slice ta n ct, .slice ua nu cu, .slice ra nr cr] 54)
    generalize w.alloc (.cells #[.slice ta n ct, .slice ua nu cu, .slice ra nr cr] 54) = W1 at *
    have b2 := alloc_below W1 (.cells #[.string ⟨#[42]⟩, .int .i64 7] 77)
    have m2 := blk_alloc W1 #[.string ⟨#[42]⟩, .int .i64 7] 77
    have s2 := World.size_alloc W1 (.cells #[.string ⟨#[42]⟩, .int .i64 7] 77)
    rw [s1] at m2
    refine ⟨((m1.same (b2.block _ (by omega))) 0 _ rfl).1, fun j q hq => ?_, Below.then b1 b2, by omega⟩
    have hj : j = 0 := by have := (List.getElem?_eq_some_iff.1 hq).1; simp [allG] at this; omega
    subst hj
    obtain rfl : (⟨starS, 7⟩ : Gr) = q := by simpa [allG] using hq
    exact ⟨_, rfl, (m2 0 _ rfl).1, (m2 1 _ rfl).1⟩
  go_enter Try.func22, Try.ntmps22
  go_wp2_with fail
  generalize (w.alloc (.cells #[.slice ta n ct, .slice ua nu cu, .slice ra nr cr] 54)).alloc (.cells #[.string ⟨#[42]⟩, .int .i64 7] 77) = W0 at *
  refine (rlbottom_any W0).mono ?_
  rintro e W1 ⟨rfl, hB1⟩
  have h1 := h0.then hB1
  go_wp2_with fail
  refine (rlbottom_any W1).mono ?_
  rintro e W2 ⟨rfl, hB2⟩
  have h2 := h1.then hB2
  have hrt : OwnN (W2.alloc (.cells [.string ⟨#[47]⟩, .bool true, .int .i64 bottomL.s, .int .i64 bottomL.c, .int .i64 bottomL.i, .int .i64 bottomL.k, .slice (some ⟨w.heap.size + 1, 0, none⟩) 1 1, .int .i64 0, .int .i64 0, .int .i64 0, .int .i64 0, .slice none 0 0, .int .i64 bottomL.s, .int .i64 bottomL.c, .int .i64 bottomL.i, .int .i64 bottomL.k].toArray 36)) (w.heap.size + 2) (.slice (some ⟨W2.heap.size, 0, none⟩) 1 1) (firstP ts 0 (some ⟨w.heap.size + 1, 0, none⟩)) := own_one (⟨rootN, some ⟨w.heap.size + 1, 0, none⟩, 1, none, 0⟩ : PN) W2 h2.sz
  have h3 := h2.then (alloc_below W2 (.cells [.string ⟨#[47]⟩, .bool true, .int .i64 bottomL.s, .int .i64 bottomL.c, .int .i64 bottomL.i, .int .i64 bottomL.k, .slice (some ⟨w.heap.size + 1, 0, none⟩) 1 1, .int .i64 0, .int .i64 0, .int .i64 0, .int .i64 0, .slice none 0 0, .int .i64 bottomL.s, .int .i64 bottomL.c, .int .i64 bottomL.i, .int .i64 bottomL.k].toArray 36))
  clear h0 h1 h2 hB1 hB2
  go_wp2_with (first | (refine wpList_build1 pn_ok (by decide) rfl _ rfl [.string ⟨#[47]⟩, .bool true, .int .i64 bottomL.s, .int .i64 bottomL.c, .int .i64 bottomL.i, .int .i64 bottomL.k, .slice (some ⟨w.heap.size + 1, 0, none⟩) 1 1, .int .i64 0, .int .i64 0, .int .i64 0, .int .i64 0, .slice none 0 0, .int .i64 bottomL.s, .int .i64 bottomL.c, .int .i64 bottomL.i, .int .i64 bottomL.k] rfl rfl ?_) | fail)
  generalize W2.alloc (.cells [.string ⟨#[47]⟩, .bool true, .int .i64 bottomL.s, .int .i64 bottomL.c, .int .i64 bottomL.i, .int .i64 bottomL.k, .slice (some ⟨w.heap.size + 1, 0, none⟩) 1 1, .int .i64 0, .int .i64 0, .int .i64 0, .int .i64 0, .slice none 0 0, .int .i64 bottomL.s, .int .i64 bottomL.c, .int .i64 bottomL.i, .int .i64 bottomL.k].toArray 36) = W3 at *
  generalize W2.heap.size = rb at *
  go_loopw [4, 5, 6] (fun t4 t5 t6 wr => ∃ i : Nat, i ≤ n ∧ t6 = .int .i64 (i : Int) ∧ ∃ q : Nat, t5 = .int .i64 (q : Int) ∧ Aside (q = (distTo ts i).length) ∧ FsZ w wr ta n ct ∧ OwnN wr (w.heap.size + 2) t4 (firstP ts i (some ⟨w.heap.size + 1, 0, none⟩))) (fun _ _ t6 _ => n - (Go.RowKit.intOf t6).toNat)
  case atStart => exact ⟨0, by omega, rfl, 0, rfl, rfl, h3, hrt⟩
  case round =>
    clear h3 hrt
    obtain ⟨i, hi, rfl, q, rfl, hq, hS, ho⟩ := hrel
    have hbx := hS.box
    have hq9 : q ≤ 9 := by rw [hq.out]; have := hdl i; omega
    by_cases hlt : i < n
    · obtain ⟨tt, hti⟩ : ∃ tt, ts[i]? = some tt := ⟨_, List.getElem?_eq_getElem (by rw [hn.out]; exact hlt)⟩
      have hgd : ts.getD i bottomL = tt := by rw [List.getD_eq_getElem?_getD, hti]; rfl
      obtain ⟨y, rfl, -⟩ := hl i tt hti
      have hfs := firstP_succ ts i (some ⟨w.heap.size + 1, 0, none⟩)
      have hds := dist_succ ts i
      rw [hgd] at hfs hds
      replace hfs : Aside _ := hfs
      replace hds : Aside _ := hds
      clear hgd
      go_wp2_with fail
      clear hbx
      go_loopw [7, 8] (fun t7 t8 wq => ∃ j : Nat, j ≤ i ∧ t8 = .int .i64 (j : Int) ∧ t7 = .bool ((ts.take j).any (fun t => labEq t tt)) ∧ FsZ w wq (some y) n ct ∧ Below wr.heap.size wr wq) (fun _ t8 _ => i - (Go.RowKit.intOf t8).toNat)
      case atStart => exact ⟨0, by omega, rfl, rfl, hS, Below.refl _ _⟩
      case round =>
        obtain ⟨j, hj, rfl, rfl, hS2, hB⟩ := hrel
        have ho2 := ho.below hB
        by_cases hlt2 : j < i
        · obtain ⟨tj, htj⟩ : ∃ tj, ts[j]? = some tj := ⟨_, List.getElem?_eq_getElem (by rw [hn.out]; omega)⟩
          have hat := any_take htj (fun t => labEq t tt)
          have hS0 : FsZ w wr.drew (some y) n ct := hS2.then (Below.refl _ _).drew
          have hBd := hB.drew
          have i1 : (j : Int) < (i : Int) := by omega
          have i2 : (j : Int) < (n : Int) := by omega
          have i3 : (i : Int) < (n : Int) := by omega
          cases hb : (ts.take j).any (fun t => labEq t tt)
          · rw [hb, Bool.false_or] at hat
            clear hS ho ho2
            go_wp2_with fail
            refine wp_region_held_drew (S := (fun W => FsZ w W (some y) n ct)) (by kernel_rfl) (by exact hS0) ?_
            intro hHeld
            first | (refine wpAnyH_take (i := 0) (v := ?_) (by simp only [List.getElem?_toArray, List.getElem?_cons_zero, List.getElem?_cons_succ]; rfl) (by kernel_rfl) (by kernel_rfl) (by kernel_rfl) (by exact fun _ _ _ h => h) (Or.inl ⟨by rfl, ?_⟩) (by assumption) ?_; rotate_left; (focus (intro w hSw; (try dsimp only at hSw); go_simp; try with_reducible rfl)); simp only [Act.put, List.setIfInBounds_toArray, List.set_cons_zero, List.set_cons_succ, Bool.not_true, Bool.not_false]) | (refine wpAnyH_take (i := 0) (v := undef) (by simp only [List.getElem?_toArray, List.getElem?_cons_zero, List.getElem?_cons_succ]; rfl) (by kernel_rfl) (by kernel_rfl) (by kernel_rfl) (by exact fun _ _ _ h => h) (Or.inr ⟨by rfl, rfl⟩) (by assumption) ?_; simp only [Act.put, List.setIfInBounds_toArray, List.set_cons_zero, List.set_cons_succ, Bool.not_true, Bool.not_false]) | fail
            first | (refine wpAnyH_take (i := 1) (v := ?_) (by simp only [List.getElem?_toArray, List.getElem?_cons_zero, List.getElem?_cons_succ]; rfl) (by kernel_rfl) (by kernel_rfl) (by kernel_rfl) (by exact fun _ _ _ h => h) (Or.inl ⟨by rfl, ?_⟩) (by assumption) ?_; rotate_left; (focus (intro w hSw; (try dsimp only at hSw); go_simp; try with_reducible rfl)); simp only [Act.put, List.setIfInBounds_toArray, List.set_cons_zero, List.set_cons_succ, Bool.not_true, Bool.not_false]) | (refine wpAnyH_take (i := 1) (v := undef) (by simp only [List.getElem?_toArray, List.getElem?_cons_zero, List.getElem?_cons_succ]; rfl) (by kernel_rfl) (by kernel_rfl) (by kernel_rfl) (by exact fun _ _ _ h => h) (Or.inr ⟨by rfl, rfl⟩) (by assumption) ?_; simp only [Act.put, List.setIfInBounds_toArray, List.set_cons_zero, List.set_cons_succ, Bool.not_true, Bool.not_false]) | fail
            first | (refine wpAnyH_take (i := 2) (v := ?_) (by simp only [List.getElem?_toArray, List.getElem?_cons_zero, List.getElem?_cons_succ]; rfl) (by kernel_rfl) (by kernel_rfl) (by kernel_rfl) (by exact fun _ _ _ h => h) (Or.inl ⟨by rfl, ?_⟩) (by assumption) ?_; rotate_left; (focus (intro w hSw; (try dsimp only at hSw); go_simp; try with_reducible rfl)); simp only [Act.put, List.setIfInBounds_toArray, List.set_cons_zero, List.set_cons_succ, Bool.not_true, Bool.not_false]) | (refine wpAnyH_take (i := 2) (v := undef) (by simp only [List.getElem?_toArray, List.getElem?_cons_zero, List.getElem?_cons_succ]; rfl) (by kernel_rfl) (by kernel_rfl) (by kernel_rfl) (by exact fun _ _ _ h => h) (Or.inr ⟨by rfl, rfl⟩) (by assumption) ?_; simp only [Act.put, List.setIfInBounds_toArray, List.set_cons_zero, List.set_cons_succ, Bool.not_true, Bool.not_false]) | fail
            first | (refine wpAnyH_take (i := 3) (v := _) (by simp only [List.getElem?_toArray, List.getElem?_cons_zero, List.getElem?_cons_succ]; rfl) (by kernel_rfl) (by kernel_rfl) (by kernel_rfl) (by exact fun _ _ _ h => h) (yields_cell (by rfl) _ rfl ⟨w.heap.size, 0, none⟩ rfl (.slice (some y) n ct) (fun _ q => q.box) slab_load) (by assumption) ?_; simp only [Act.put, List.setIfInBounds_toArray, List.set_cons_zero, List.set_cons_succ, Bool.not_true, Bool.not_false]) | (refine wpAnyH_take (i := 3) (v := undef) (by simp only [List.getElem?_toArray, List.getElem?_cons_zero, List.getElem?_cons_succ]; rfl) (by kernel_rfl) (by kernel_rfl) (by kernel_rfl) (by exact fun _ _ _ h => h) (Or.inr ⟨by rfl, rfl⟩) (by assumption) ?_; simp only [Act.put, List.setIfInBounds_toArray, List.set_cons_zero, List.set_cons_succ, Bool.not_true, Bool.not_false]) | fail
            first | (refine wpAnyH_take (i := 4) (v := ?_) (by simp only [List.getElem?_toArray, List.getElem?_cons_zero, List.getElem?_cons_succ]; rfl) (by kernel_rfl) (by kernel_rfl) (by kernel_rfl) (by exact fun _ _ _ h => h) (Or.inl ⟨by rfl, ?_⟩) (by assumption) ?_; rotate_left; (focus (intro w hSw; (try dsimp only at hSw); go_simp; try with_reducible rfl)); simp only [Act.put, List.setIfInBounds_toArray, List.set_cons_zero, List.set_cons_succ, Bool.not_true, Bool.not_false]) | (refine wpAnyH_take (i := 4) (v := undef) (by simp only [List.getElem?_toArray, List.getElem?_cons_zero, List.getElem?_cons_succ]; rfl) (by kernel_rfl) (by kernel_rfl) (by kernel_rfl) (by exact fun _ _ _ h => h) (Or.inr ⟨by rfl, rfl⟩) (by assumption) ?_; simp only [Act.put, List.setIfInBounds_toArray, List.set_cons_zero, List.set_cons_succ, Bool.not_true, Bool.not_false]) | fail
            first | (refine wpAnyH_take (i := 5) (v := ?_) (by simp only [List.getElem?_toArray, List.getElem?_cons_zero, List.getElem?_cons_succ]; rfl) (by kernel_rfl) (by kernel_rfl) (by kernel_rfl) (by exact fun _ _ _ h => h) (Or.inl ⟨by rfl, ?_⟩) (by assumption) ?_; rotate_left; (focus (intro w hSw; (try dsimp only at hSw); go_simp; try with_reducible rfl)); simp only [Act.put, List.setIfInBounds_toArray, List.set_cons_zero, List.set_cons_succ, Bool.not_true, Bool.not_false]) | (refine wpAnyH_take (i := 5) (v := undef) (by simp only [List.getElem?_toArray, List.getElem?_cons_zero, List.getElem?_cons_succ]; rfl) (by kernel_rfl) (by kernel_rfl) (by kernel_rfl) (by exact fun _ _ _ h => h) (Or.inr ⟨by rfl, rfl⟩) (by assumption) ?_; simp only [Act.put, List.setIfInBounds_toArray, List.set_cons_zero, List.set_cons_succ, Bool.not_true, Bool.not_false]) | fail
            first | (refine wpAnyH_take (i := 6) (v := _) (by simp only [List.getElem?_toArray, List.getElem?_cons_zero, List.getElem?_cons_succ]; rfl) (by kernel_rfl) (by kernel_rfl) (by kernel_rfl) (by exact fun _ _ _ h => h) (yields_at (by rfl) _ rfl _ rfl [.int .i64 tj.s, .int .i64 tj.c, .int .i64 tj.i, .int .i64 tj.k] (fun _ q => q.lab hl htj) Try.underlying25 rfl hsl) (by assumption) ?_; simp only [Act.put, List.setIfInBounds_toArray, List.set_cons_zero, List.set_cons_succ, Bool.not_true, Bool.not_false]) | (refine wpAnyH_take (i := 6) (v := undef) (by simp only [List.getElem?_toArray, List.getElem?_cons_zero, List.getElem?_cons_succ]; rfl) (by kernel_rfl) (by kernel_rfl) (by kernel_rfl) (by exact fun _ _ _ h => h) (Or.inr ⟨by rfl, rfl⟩) (by assumption) ?_; simp only [Act.put, List.setIfInBounds_toArray, List.set_cons_zero, List.set_cons_succ, Bool.not_true, Bool.not_false]) | fail
            first | (refine wpAnyH_take (i := 7) (v := ?_) (by simp only [List.getElem?_toArray, List.getElem?_cons_zero, List.getElem?_cons_succ]; rfl) (by kernel_rfl) (by kernel_rfl) (by kernel_rfl) (by exact fun _ _ _ h => h) (Or.inl ⟨by rfl, ?_⟩) (by assumption) ?_; rotate_left; (focus (intro w hSw; (try dsimp only at hSw); go_simp; try with_reducible rfl)); simp only [Act.put, List.setIfInBounds_toArray, List.set_cons_zero, List.set_cons_succ, Bool.not_true, Bool.not_false]) | (refine wpAnyH_take (i := 7) (v := undef) (by simp only [List.getElem?_toArray, List.getElem?_cons_zero, List.getElem?_cons_succ]; rfl) (by kernel_rfl) (by kernel_rfl) (by kernel_rfl) (by exact fun _ _ _ h => h) (Or.inr ⟨by rfl, rfl⟩) (by assumption) ?_; simp only [Act.put, List.setIfInBounds_toArray, List.set_cons_zero, List.set_cons_succ, Bool.not_true, Bool.not_false]) | fail
            first | (refine wpAnyH_take (i := 8) (v := _) (by simp only [List.getElem?_toArray, List.getElem?_cons_zero, List.getElem?_cons_succ]; rfl) (by kernel_rfl) (by kernel_rfl) (by kernel_rfl) (by exact fun _ _ _ h => h) (yields_cell (by rfl) _ rfl ⟨w.heap.size, 0, none⟩ rfl (.slice (some y) n ct) (fun _ q => q.box) slab_load) (by assumption) ?_; simp only [Act.put, List.setIfInBounds_toArray, List.set_cons_zero, List.set_cons_succ, Bool.not_true, Bool.not_false]) | (refine wpAnyH_take (i := 8) (v := undef) (by simp only [List.getElem?_toArray, List.getElem?_cons_zero, List.getElem?_cons_succ]; rfl) (by kernel_rfl) (by kernel_rfl) (by kernel_rfl) (by exact fun _ _ _ h => h) (Or.inr ⟨by rfl, rfl⟩) (by assumption) ?_; simp only [Act.put, List.setIfInBounds_toArray, List.set_cons_zero, List.set_cons_succ, Bool.not_true, Bool.not_false]) | fail
            first | (refine wpAnyH_take (i := 9) (v := ?_) (by simp only [List.getElem?_toArray, List.getElem?_cons_zero, List.getElem?_cons_succ]; rfl) (by kernel_rfl) (by kernel_rfl) (by kernel_rfl) (by exact fun _ _ _ h => h) (Or.inl ⟨by rfl, ?_⟩) (by assumption) ?_; rotate_left; (focus (intro w hSw; (try dsimp only at hSw); go_simp; try with_reducible rfl)); simp only [Act.put, List.setIfInBounds_toArray, List.set_cons_zero, List.set_cons_succ, Bool.not_true, Bool.not_false]) | (refine wpAnyH_take (i := 9) (v := undef) (by simp only [List.getElem?_toArray, List.getElem?_cons_zero, List.getElem?_cons_succ]; rfl) (by kernel_rfl) (by kernel_rfl) (by kernel_rfl) (by exact fun _ _ _ h => h) (Or.inr ⟨by rfl, rfl⟩) (by assumption) ?_; simp only [Act.put, List.setIfInBounds_toArray, List.set_cons_zero, List.set_cons_succ, Bool.not_true, Bool.not_false]) | fail
            first | (refine wpAnyH_take (i := 10) (v := ?_) (by simp only [List.getElem?_toArray, List.getElem?_cons_zero, List.getElem?_cons_succ]; rfl) (by kernel_rfl) (by kernel_rfl) (by kernel_rfl) (by exact fun _ _ _ h => h) (Or.inl ⟨by rfl, ?_⟩) (by assumption) ?_; rotate_left; (focus (intro w hSw; (try dsimp only at hSw); go_simp; try with_reducible rfl)); simp only [Act.put, List.setIfInBounds_toArray, List.set_cons_zero, List.set_cons_succ, Bool.not_true, Bool.not_false]) | (refine wpAnyH_take (i := 10) (v := undef) (by simp only [List.getElem?_toArray, List.getElem?_cons_zero, List.getElem?_cons_succ]; rfl) (by kernel_rfl) (by kernel_rfl) (by kernel_rfl) (by exact fun _ _ _ h => h) (Or.inr ⟨by rfl, rfl⟩) (by assumption) ?_; simp only [Act.put, List.setIfInBounds_toArray, List.set_cons_zero, List.set_cons_succ, Bool.not_true, Bool.not_false]) | fail
            first | (refine wpAnyH_take (i := 11) (v := _) (by simp only [List.getElem?_toArray, List.getElem?_cons_zero, List.getElem?_cons_succ]; rfl) (by kernel_rfl) (by kernel_rfl) (by kernel_rfl) (by exact fun _ _ _ h => h) (yields_at (by rfl) _ rfl _ rfl [.int .i64 tt.s, .int .i64 tt.c, .int .i64 tt.i, .int .i64 tt.k] (fun _ q => q.lab hl hti) Try.underlying25 rfl hsl) (by assumption) ?_; simp only [Act.put, List.setIfInBounds_toArray, List.set_cons_zero, List.set_cons_succ, Bool.not_true, Bool.not_false]) | (refine wpAnyH_take (i := 11) (v := undef) (by simp only [List.getElem?_toArray, List.getElem?_cons_zero, List.getElem?_cons_succ]; rfl) (by kernel_rfl) (by kernel_rfl) (by kernel_rfl) (by exact fun _ _ _ h => h) (Or.inr ⟨by rfl, rfl⟩) (by assumption) ?_; simp only [Act.put, List.setIfInBounds_toArray, List.set_cons_zero, List.set_cons_succ, Bool.not_true, Bool.not_false]) | fail
            first | (refine wpAnyH_take (i := 12) (v := ?_) (by simp only [List.getElem?_toArray, List.getElem?_cons_zero, List.getElem?_cons_succ]; rfl) (by kernel_rfl) (by kernel_rfl) (by kernel_rfl) (by exact fun _ _ _ h => h) (Or.inl ⟨by rfl, ?_⟩) (by assumption) ?_; rotate_left; (focus (intro w hSw; (try dsimp only at hSw); go_simp; try with_reducible rfl)); simp only [Act.put, List.setIfInBounds_toArray, List.set_cons_zero, List.set_cons_succ, Bool.not_true, Bool.not_false]) | (refine wpAnyH_take (i := 12) (v := undef) (by simp only [List.getElem?_toArray, List.getElem?_cons_zero, List.getElem?_cons_succ]; rfl) (by kernel_rfl) (by kernel_rfl) (by kernel_rfl) (by exact fun _ _ _ h => h) (Or.inr ⟨by rfl, rfl⟩) (by assumption) ?_; simp only [Act.put, List.setIfInBounds_toArray, List.set_cons_zero, List.set_cons_succ, Bool.not_true, Bool.not_false]) | fail
            first | (refine wpAnyH_take (i := 13) (v := ?_) (by simp only [List.getElem?_toArray, List.getElem?_cons_zero, List.getElem?_cons_succ]; rfl) (by kernel_rfl) (by kernel_rfl) (by kernel_rfl) (by exact fun _ _ _ h => h) (Or.inl ⟨by rfl, ?_⟩) (by assumption) ?_; rotate_left; (focus (intro w hSw; (try dsimp only at hSw); go_simp; try with_reducible rfl)); simp only [Act.put, List.setIfInBounds_toArray, List.set_cons_zero, List.set_cons_succ, Bool.not_true, Bool.not_false]) | (refine wpAnyH_take (i := 13) (v := undef) (by simp only [List.getElem?_toArray, List.getElem?_cons_zero, List.getElem?_cons_succ]; rfl) (by kernel_rfl) (by kernel_rfl) (by kernel_rfl) (by exact fun _ _ _ h => h) (Or.inr ⟨by rfl, rfl⟩) (by assumption) ?_; simp only [Act.put, List.setIfInBounds_toArray, List.set_cons_zero, List.set_cons_succ, Bool.not_true, Bool.not_false]) | fail
            first | (refine wpAnyH_take (i := 14) (v := ?_) (by simp only [List.getElem?_toArray, List.getElem?_cons_zero, List.getElem?_cons_succ]; rfl) (by kernel_rfl) (by kernel_rfl) (by kernel_rfl) (by exact fun _ _ _ h => h) (Or.inl ⟨by rfl, ?_⟩) (by assumption) ?_; rotate_left; (focus (intro w hSw; (try dsimp only at hSw); go_simp; try with_reducible rfl)); simp only [Act.put, List.setIfInBounds_toArray, List.set_cons_zero, List.set_cons_succ, Bool.not_true, Bool.not_false]) | (refine wpAnyH_take (i := 14) (v := undef) (by simp only [List.getElem?_toArray, List.getElem?_cons_zero, List.getElem?_cons_succ]; rfl) (by kernel_rfl) (by kernel_rfl) (by kernel_rfl) (by exact fun _ _ _ h => h) (Or.inr ⟨by rfl, rfl⟩) (by assumption) ?_; simp only [Act.put, List.setIfInBounds_toArray, List.set_cons_zero, List.set_cons_succ, Bool.not_true, Bool.not_false]) | fail
            refine wpAnyH_done (by kernel_rfl) ?_ _
            go_wp2_with fail
            exact ⟨⟨j + 1, by omega, by simp, by rw [hat], hS0, hBd⟩, by simp [Go.RowKit.intOf]; omega⟩
          · rw [hb, Bool.true_or] at hat
            clear hS ho ho2
            go_wp2_with fail
            refine wp_region_held_drew (S := (fun W => FsZ w W (some y) n ct)) (by kernel_rfl) (by exact hS0) ?_
            intro hHeld
            first | (refine wpAnyH_take (i := 0) (v := ?_) (by simp only [List.getElem?_toArray, List.getElem?_cons_zero, List.getElem?_cons_succ]; rfl) (by kernel_rfl) (by kernel_rfl) (by kernel_rfl) (by exact fun _ _ _ h => h) (Or.inl ⟨by rfl, ?_⟩) (by assumption) ?_; rotate_left; (focus (intro w hSw; (try dsimp only at hSw); go_simp; try with_reducible rfl)); simp only [Act.put, List.setIfInBounds_toArray, List.set_cons_zero, List.set_cons_succ, Bool.not_true, Bool.not_false]) | (refine wpAnyH_take (i := 0) (v := undef) (by simp only [List.getElem?_toArray, List.getElem?_cons_zero, List.getElem?_cons_succ]; rfl) (by kernel_rfl) (by kernel_rfl) (by kernel_rfl) (by exact fun _ _ _ h => h) (Or.inr ⟨by rfl, rfl⟩) (by assumption) ?_; simp only [Act.put, List.setIfInBounds_toArray, List.set_cons_zero, List.set_cons_succ, Bool.not_true, Bool.not_false]) | fail
            first | (refine wpAnyH_take (i := 1) (v := ?_) (by simp only [List.getElem?_toArray, List.getElem?_cons_zero, List.getElem?_cons_succ]; rfl) (by kernel_rfl) (by kernel_rfl) (by kernel_rfl) (by exact fun _ _ _ h => h) (Or.inl ⟨by rfl, ?_⟩) (by assumption) ?_; rotate_left; (focus (intro w hSw; (try dsimp only at hSw); go_simp; try with_reducible rfl)); simp only [Act.put, List.setIfInBounds_toArray, List.set_cons_zero, List.set_cons_succ, Bool.not_true, Bool.not_false]) | (refine wpAnyH_take (i := 1) (v := undef) (by simp only [List.getElem?_toArray, List.getElem?_cons_zero, List.getElem?_cons_succ]; rfl) (by kernel_rfl) (by kernel_rfl) (by kernel_rfl) (by exact fun _ _ _ h => h) (Or.inr ⟨by rfl, rfl⟩) (by assumption) ?_; simp only [Act.put, List.setIfInBounds_toArray, List.set_cons_zero, List.set_cons_succ, Bool.not_true, Bool.not_false]) | fail
            first | (refine wpAnyH_take (i := 2) (v := ?_) (by simp only [List.getElem?_toArray, List.getElem?_cons_zero, List.getElem?_cons_succ]; rfl) (by kernel_rfl) (by kernel_rfl) (by kernel_rfl) (by exact fun _ _ _ h => h) (Or.inl ⟨by rfl, ?_⟩) (by assumption) ?_; rotate_left; (focus (intro w hSw; (try dsimp only at hSw); go_simp; try with_reducible rfl)); simp only [Act.put, List.setIfInBounds_toArray, List.set_cons_zero, List.set_cons_succ, Bool.not_true, Bool.not_false]) | (refine wpAnyH_take (i := 2) (v := undef) (by simp only [List.getElem?_toArray, List.getElem?_cons_zero, List.getElem?_cons_succ]; rfl) (by kernel_rfl) (by kernel_rfl) (by kernel_rfl) (by exact fun _ _ _ h => h) (Or.inr ⟨by rfl, rfl⟩) (by assumption) ?_; simp only [Act.put, List.setIfInBounds_toArray, List.set_cons_zero, List.set_cons_succ, Bool.not_true, Bool.not_false]) | fail
            first | (refine wpAnyH_take (i := 3) (v := _) (by simp only [List.getElem?_toArray, List.getElem?_cons_zero, List.getElem?_cons_succ]; rfl) (by kernel_rfl) (by kernel_rfl) (by kernel_rfl) (by exact fun _ _ _ h => h) (yields_cell (by rfl) _ rfl ⟨w.heap.size, 0, none⟩ rfl (.slice (some y) n ct) (fun _ q => q.box) slab_load) (by assumption) ?_; simp only [Act.put, List.setIfInBounds_toArray, List.set_cons_zero, List.set_cons_succ, Bool.not_true, Bool.not_false]) | (refine wpAnyH_take (i := 3) (v := undef) (by simp only [List.getElem?_toArray, List.getElem?_cons_zero, List.getElem?_cons_succ]; rfl) (by kernel_rfl) (by kernel_rfl) (by kernel_rfl) (by exact fun _ _ _ h => h) (Or.inr ⟨by rfl, rfl⟩) (by assumption) ?_; simp only [Act.put, List.setIfInBounds_toArray, List.set_cons_zero, List.set_cons_succ, Bool.not_true, Bool.not_false]) | fail
            first | (refine wpAnyH_take (i := 4) (v := ?_) (by simp only [List.getElem?_toArray, List.getElem?_cons_zero, List.getElem?_cons_succ]; rfl) (by kernel_rfl) (by kernel_rfl) (by kernel_rfl) (by exact fun _ _ _ h => h) (Or.inl ⟨by rfl, ?_⟩) (by assumption) ?_; rotate_left; (focus (intro w hSw; (try dsimp only at hSw); go_simp; try with_reducible rfl)); simp only [Act.put, List.setIfInBounds_toArray, List.set_cons_zero, List.set_cons_succ, Bool.not_true, Bool.not_false]) | (refine wpAnyH_take (i := 4) (v := undef) (by simp only [List.getElem?_toArray, List.getElem?_cons_zero, List.getElem?_cons_succ]; rfl) (by kernel_rfl) (by kernel_rfl) (by kernel_rfl) (by exact fun _ _ _ h => h) (Or.inr ⟨by rfl, rfl⟩) (by assumption) ?_; simp only [Act.put, List.setIfInBounds_toArray, List.set_cons_zero, List.set_cons_succ, Bool.not_true, Bool.not_false]) | fail
            first | (refine wpAnyH_take (i := 5) (v := ?_) (by simp only [List.getElem?_toArray, List.getElem?_cons_zero, List.getElem?_cons_succ]; rfl) (by kernel_rfl) (by kernel_rfl) (by kernel_rfl) (by exact fun _ _ _ h => h) (Or.inl ⟨by rfl, ?_⟩) (by assumption) ?_; rotate_left; (focus (intro w hSw; (try dsimp only at hSw); go_simp; try with_reducible rfl)); simp only [Act.put, List.setIfInBounds_toArray, List.set_cons_zero, List.set_cons_succ, Bool.not_true, Bool.not_false]) | (refine wpAnyH_take (i := 5) (v := undef) (by simp only [List.getElem?_toArray, List.getElem?_cons_zero, List.getElem?_cons_succ]; rfl) (by kernel_rfl) (by kernel_rfl) (by kernel_rfl) (by exact fun _ _ _ h => h) (Or.inr ⟨by rfl, rfl⟩) (by assumption) ?_; simp only [Act.put, List.setIfInBounds_toArray, List.set_cons_zero, List.set_cons_succ, Bool.not_true, Bool.not_false]) | fail
            first | (refine wpAnyH_take (i := 6) (v := _) (by simp only [List.getElem?_toArray, List.getElem?_cons_zero, List.getElem?_cons_succ]; rfl) (by kernel_rfl) (by kernel_rfl) (by kernel_rfl) (by exact fun _ _ _ h => h) (yields_at (by rfl) _ rfl _ rfl [.int .i64 tj.s, .int .i64 tj.c, .int .i64 tj.i, .int .i64 tj.k] (fun _ q => q.lab hl htj) Try.underlying25 rfl hsl) (by assumption) ?_; simp only [Act.put, List.setIfInBounds_toArray, List.set_cons_zero, List.set_cons_succ, Bool.not_true, Bool.not_false]) | (refine wpAnyH_take (i := 6) (v := undef) (by simp only [List.getElem?_toArray, List.getElem?_cons_zero, List.getElem?_cons_succ]; rfl) (by kernel_rfl) (by kernel_rfl) (by kernel_rfl) (by exact fun _ _ _ h => h) (Or.inr ⟨by rfl, rfl⟩) (by assumption) ?_; simp only [Act.put, List.setIfInBounds_toArray, List.set_cons_zero, List.set_cons_succ, Bool.not_true, Bool.not_false]) | fail
            first | (refine wpAnyH_take (i := 7) (v := ?_) (by simp only [List.getElem?_toArray, List.getElem?_cons_zero, List.getElem?_cons_succ]; rfl) (by kernel_rfl) (by kernel_rfl) (by kernel_rfl) (by exact fun _ _ _ h => h) (Or.inl ⟨by rfl, ?_⟩) (by assumption) ?_; rotate_left; (focus (intro w hSw; (try dsimp only at hSw); go_simp; try with_reducible rfl)); simp only [Act.put, List.setIfInBounds_toArray, List.set_cons_zero, List.set_cons_succ, Bool.not_true, Bool.not_false]) | (refine wpAnyH_take (i := 7) (v := undef) (by simp only [List.getElem?_toArray, List.getElem?_cons_zero, List.getElem?_cons_succ]; rfl) (by kernel_rfl) (by kernel_rfl) (by kernel_rfl) (by exact fun _ _ _ h => h) (Or.inr ⟨by rfl, rfl⟩) (by assumption) ?_; simp only [Act.put, List.setIfInBounds_toArray, List.set_cons_zero, List.set_cons_succ, Bool.not_true, Bool.not_false]) | fail
            first | (refine wpAnyH_take (i := 8) (v := _) (by simp only [List.getElem?_toArray, List.getElem?_cons_zero, List.getElem?_cons_succ]; rfl) (by kernel_rfl) (by kernel_rfl) (by kernel_rfl) (by exact fun _ _ _ h => h) (yields_cell (by rfl) _ rfl ⟨w.heap.size, 0, none⟩ rfl (.slice (some y) n ct) (fun _ q => q.box) slab_load) (by assumption) ?_; simp only [Act.put, List.setIfInBounds_toArray, List.set_cons_zero, List.set_cons_succ, Bool.not_true, Bool.not_false]) | (refine wpAnyH_take (i := 8) (v := undef) (by simp only [List.getElem?_toArray, List.getElem?_cons_zero, List.getElem?_cons_succ]; rfl) (by kernel_rfl) (by kernel_rfl) (by kernel_rfl) (by exact fun _ _ _ h => h) (Or.inr ⟨by rfl, rfl⟩) (by assumption) ?_; simp only [Act.put, List.setIfInBounds_toArray, List.set_cons_zero, List.set_cons_succ, Bool.not_true, Bool.not_false]) | fail
            first | (refine wpAnyH_take (i := 9) (v := ?_) (by simp only [List.getElem?_toArray, List.getElem?_cons_zero, List.getElem?_cons_succ]; rfl) (by kernel_rfl) (by kernel_rfl) (by kernel_rfl) (by exact fun _ _ _ h => h) (Or.inl ⟨by rfl, ?_⟩) (by assumption) ?_; rotate_left; (focus (intro w hSw; (try dsimp only at hSw); go_simp; try with_reducible rfl)); simp only [Act.put, List.setIfInBounds_toArray, List.set_cons_zero, List.set_cons_succ, Bool.not_true, Bool.not_false]) | (refine wpAnyH_take (i := 9) (v := undef) (by simp only [List.getElem?_toArray, List.getElem?_cons_zero, List.getElem?_cons_succ]; rfl) (by kernel_rfl) (by kernel_rfl) (by kernel_rfl) (by exact fun _ _ _ h => h) (Or.inr ⟨by rfl, rfl⟩) (by assumption) ?_; simp only [Act.put, List.setIfInBounds_toArray, List.set_cons_zero, List.set_cons_succ, Bool.not_true, Bool.not_false]) | fail
            first | (refine wpAnyH_take (i := 10) (v := ?_) (by simp only [List.getElem?_toArray, List.getElem?_cons_zero, List.getElem?_cons_succ]; rfl) (by kernel_rfl) (by kernel_rfl) (by kernel_rfl) (by exact fun _ _ _ h => h) (Or.inl ⟨by rfl, ?_⟩) (by assumption) ?_; rotate_left; (focus (intro w hSw; (try dsimp only at hSw); go_simp; try with_reducible rfl)); simp only [Act.put, List.setIfInBounds_toArray, List.set_cons_zero, List.set_cons_succ, Bool.not_true, Bool.not_false]) | (refine wpAnyH_take (i := 10) (v := undef) (by simp only [List.getElem?_toArray, List.getElem?_cons_zero, List.getElem?_cons_succ]; rfl) (by kernel_rfl) (by kernel_rfl) (by kernel_rfl) (by exact fun _ _ _ h => h) (Or.inr ⟨by rfl, rfl⟩) (by assumption) ?_; simp only [Act.put, List.setIfInBounds_toArray, List.set_cons_zero, List.set_cons_succ, Bool.not_true, Bool.not_false]) | fail
            first | (refine wpAnyH_take (i := 11) (v := _) (by simp only [List.getElem?_toArray, List.getElem?_cons_zero, List.getElem?_cons_succ]; rfl) (by kernel_rfl) (by kernel_rfl) (by kernel_rfl) (by exact fun _ _ _ h => h) (yields_at (by rfl) _ rfl _ rfl [.int .i64 tt.s, .int .i64 tt.c, .int .i64 tt.i, .int .i64 tt.k] (fun _ q => q.lab hl hti) Try.underlying25 rfl hsl) (by assumption) ?_; simp only [Act.put, List.setIfInBounds_toArray, List.set_cons_zero, List.set_cons_succ, Bool.not_true, Bool.not_false]) | (refine wpAnyH_take (i := 11) (v := undef) (by simp only [List.getElem?_toArray, List.getElem?_cons_zero, List.getElem?_cons_succ]; rfl) (by kernel_rfl) (by kernel_rfl) (by kernel_rfl) (by exact fun _ _ _ h => h) (Or.inr ⟨by rfl, rfl⟩) (by assumption) ?_; simp only [Act.put, List.setIfInBounds_toArray, List.set_cons_zero, List.set_cons_succ, Bool.not_true, Bool.not_false]) | fail
            first | (refine wpAnyH_take (i := 12) (v := ?_) (by simp only [List.getElem?_toArray, List.getElem?_cons_zero, List.getElem?_cons_succ]; rfl) (by kernel_rfl) (by kernel_rfl) (by kernel_rfl) (by exact fun _ _ _ h => h) (Or.inl ⟨by rfl, ?_⟩) (by assumption) ?_; rotate_left; (focus (intro w hSw; (try dsimp only at hSw); go_simp; try with_reducible rfl)); simp only [Act.put, List.setIfInBounds_toArray, List.set_cons_zero, List.set_cons_succ, Bool.not_true, Bool.not_false]) | (refine wpAnyH_take (i := 12) (v := undef) (by simp only [List.getElem?_toArray, List.getElem?_cons_zero, List.getElem?_cons_succ]; rfl) (by kernel_rfl) (by kernel_rfl) (by kernel_rfl) (by exact fun _ _ _ h => h) (Or.inr ⟨by rfl, rfl⟩) (by assumption) ?_; simp only [Act.put, List.setIfInBounds_toArray, List.set_cons_zero, List.set_cons_succ, Bool.not_true, Bool.not_false]) | fail
            first | (refine wpAnyH_take (i := 13) (v := ?_) (by simp only [List.getElem?_toArray, List.getElem?_cons_zero, List.getElem?_cons_succ]; rfl) (by kernel_rfl) (by kernel_rfl) (by kernel_rfl) (by exact fun _ _ _ h => h) (Or.inl ⟨by rfl, ?_⟩) (by assumption) ?_; rotate_left; (focus (intro w hSw; (try dsimp only at hSw); go_simp; try with_reducible rfl)); simp only [Act.put, List.setIfInBounds_toArray, List.set_cons_zero, List.set_cons_succ, Bool.not_true, Bool.not_false]) | (refine wpAnyH_take (i := 13) (v := undef) (by simp only [List.getElem?_toArray, List.getElem?_cons_zero, List.getElem?_cons_succ]; rfl) (by kernel_rfl) (by kernel_rfl) (by kernel_rfl) (by exact fun _ _ _ h => h) (Or.inr ⟨by rfl, rfl⟩) (by assumption) ?_; simp only [Act.put, List.setIfInBounds_toArray, List.set_cons_zero, List.set_cons_succ, Bool.not_true, Bool.not_false]) | fail
            first | (refine wpAnyH_take (i := 14) (v := ?_) (by simp only [List.getElem?_toArray, List.getElem?_cons_zero, List.getElem?_cons_succ]; rfl) (by kernel_rfl) (by kernel_rfl) (by kernel_rfl) (by exact fun _ _ _ h => h) (Or.inl ⟨by rfl, ?_⟩) (by assumption) ?_; rotate_left; (focus (intro w hSw; (try dsimp only at hSw); go_simp; try with_reducible rfl)); simp only [Act.put, List.setIfInBounds_toArray, List.set_cons_zero, List.set_cons_succ, Bool.not_true, Bool.not_false]) | (refine wpAnyH_take (i := 14) (v := undef) (by simp only [List.getElem?_toArray, List.getElem?_cons_zero, List.getElem?_cons_succ]; rfl) (by kernel_rfl) (by kernel_rfl) (by kernel_rfl) (by exact fun _ _ _ h => h) (Or.inr ⟨by rfl, rfl⟩) (by assumption) ?_; simp only [Act.put, List.setIfInBounds_toArray, List.set_cons_zero, List.set_cons_succ, Bool.not_true, Bool.not_false]) | fail
            refine wpAnyH_done (by kernel_rfl) ?_ _
            go_wp2_with fail
            exact ⟨⟨j + 1, by omega, by simp, by rw [hat], hS0, hBd⟩, by simp [Go.RowKit.intOf]; omega⟩
        · obtain rfl : j = i := by omega
          cases hb : (ts.take j).any (fun t => labEq t tt)
          · replace hfs := hfs.out
            replace hds := hds.out
            rw [hb, if_neg (by decide)] at hfs hds
            rw [← hq.out] at hfs hds
            have hqn : Aside (q + 1 = (distTo ts (j + 1)).length) := hds.symm
            replace hfs : Aside _ := hfs
            clear hds hS ho hB
            have hS0 : FsZ w wr.drew (some y) n ct := hS2.then (Below.refl _ _).drew
            have ho0 : OwnN wr.drew (w.heap.size + 2) u4 (firstP ts j (some ⟨w.heap.size + 1, 0, none⟩)) := ho2
            have hwq : IntKind.i64.wrap (48 + (q : Int)) = ((48 + q : Nat) : Int) := by rw [IntKind.wrap_i64]; omega
            have hc2 : ¬ 9223372036854775807 < 2 + (chr (48 + q)).size := by show ¬ 9223372036854775807 < 2 + 1; decide
            have hwu2 : IntKind.u8.wrap (48 + (q : Int)) = ((48 + q : Nat) : Int) := by rw [IntKind.wrap_u8]; omega
            have hwu : IntKind.u8.wrap ((48 + q : Nat) : Int) = ((48 + q : Nat) : Int) := by rw [IntKind.wrap_u8]; omega
            clear hS2 ho2
            go_wp2_with fail
            refine wp_region_held_drew (S := (fun W => FsZ w W (some y) n ct)) (by kernel_rfl) (by exact hS0) ?_
            intro hHeld
            generalize wr.drew = w0 at *
            refine wpAnyH_take (i := 0) (v := ?_) (by simp only [List.getElem?_toArray, List.getElem?_cons_zero, List.getElem?_cons_succ]; rfl) (by kernel_rfl) (by kernel_rfl) (by kernel_rfl) (by exact fun _ _ _ h => h) (Or.inl ⟨by rfl, ?_⟩) (by assumption) ?_; rotate_left; (focus (intro w hSw; (try dsimp only at hSw); go_simp; try with_reducible rfl)); (try simp only [Act.put, List.setIfInBounds_toArray, List.set_cons_zero, List.set_cons_succ])
            refine wpAnyH_take (i := 1) (v := ?_) (by simp only [List.getElem?_toArray, List.getElem?_cons_zero, List.getElem?_cons_succ]; rfl) (by kernel_rfl) (by kernel_rfl) (by kernel_rfl) (by exact fun _ _ _ h => h) (Or.inl ⟨by rfl, ?_⟩) (by assumption) ?_; rotate_left; (focus (intro w hSw; (try dsimp only at hSw); go_simp; try with_reducible rfl)); (try simp only [Act.put, List.setIfInBounds_toArray, List.set_cons_zero, List.set_cons_succ])
            refine wpAnyH_take (i := 2) (v := ?_) (by simp only [List.getElem?_toArray, List.getElem?_cons_zero, List.getElem?_cons_succ]; rfl) (by kernel_rfl) (by kernel_rfl) (by kernel_rfl) (by exact fun _ _ _ h => h) (Or.inl ⟨by rfl, ?_⟩) (by assumption) ?_; rotate_left; (focus (intro w hSw; (try dsimp only at hSw); go_simp; try with_reducible rfl)); (try simp only [Act.put, List.setIfInBounds_toArray, List.set_cons_zero, List.set_cons_succ])
            refine wpAnyH_take (i := 3) (v := ?_) (by simp only [List.getElem?_toArray, List.getElem?_cons_zero, List.getElem?_cons_succ]; rfl) (by kernel_rfl) (by kernel_rfl) (by kernel_rfl) (by exact fun _ _ _ h => h) (Or.inl ⟨by rfl, ?_⟩) (by assumption) ?_; rotate_left; (focus (intro w hSw; (try dsimp only at hSw); go_simp; try with_reducible rfl)); (try simp only [Act.put, List.setIfInBounds_toArray, List.set_cons_zero, List.set_cons_succ])
            refine wpAnyH_take (i := 7) (v := ?_) (by simp only [List.getElem?_toArray, List.getElem?_cons_zero, List.getElem?_cons_succ]; rfl) (by kernel_rfl) (by kernel_rfl) (by kernel_rfl) (by exact fun _ _ _ h => h) (Or.inl ⟨by rfl, ?_⟩) (by assumption) ?_; rotate_left; (focus (intro w hSw; (try dsimp only at hSw); go_simp; try with_reducible rfl)); (try simp only [Act.put, List.setIfInBounds_toArray, List.set_cons_zero, List.set_cons_succ])
            refine wpAnyH_take (i := 8) (v := _) (by simp only [List.getElem?_toArray, List.getElem?_cons_zero, List.getElem?_cons_succ]; rfl) (by kernel_rfl) (by kernel_rfl) (by kernel_rfl) (by exact fun _ _ _ h => h) (yields_cell (by rfl) _ rfl ⟨w.heap.size, 0, none⟩ rfl (.slice (some y) n ct) (fun _ q => q.box) slab_load) (by assumption) ?_; (try simp only [Act.put, List.setIfInBounds_toArray, List.set_cons_zero, List.set_cons_succ])
            refine wpAnyH_take (i := 9) (v := ?_) (by simp only [List.getElem?_toArray, List.getElem?_cons_zero, List.getElem?_cons_succ]; rfl) (by kernel_rfl) (by kernel_rfl) (by kernel_rfl) (by exact fun _ _ _ h => h) (Or.inl ⟨by rfl, ?_⟩) (by assumption) ?_; rotate_left; (focus (intro w hSw; (try dsimp only at hSw); go_simp; try with_reducible rfl)); (try simp only [Act.put, List.setIfInBounds_toArray, List.set_cons_zero, List.set_cons_succ])
            refine wpAnyH_take (i := 10) (v := ?_) (by simp only [List.getElem?_toArray, List.getElem?_cons_zero, List.getElem?_cons_succ]; rfl) (by kernel_rfl) (by kernel_rfl) (by kernel_rfl) (by exact fun _ _ _ h => h) (Or.inl ⟨by rfl, ?_⟩) (by assumption) ?_; rotate_left; (focus (intro w hSw; (try dsimp only at hSw); go_simp; try with_reducible rfl)); (try simp only [Act.put, List.setIfInBounds_toArray, List.set_cons_zero, List.set_cons_succ])
            refine wpAnyH_take (i := 11) (v := _) (by simp only [List.getElem?_toArray, List.getElem?_cons_zero, List.getElem?_cons_succ]; rfl) (by kernel_rfl) (by kernel_rfl) (by kernel_rfl) (by exact fun _ _ _ h => h) (yields_at (by rfl) _ rfl _ rfl [.int .i64 tt.s, .int .i64 tt.c, .int .i64 tt.i, .int .i64 tt.k] (fun _ q => q.lab hl hti) Try.underlying25 rfl hsl) (by assumption) ?_; (try simp only [Act.put, List.setIfInBounds_toArray, List.set_cons_zero, List.set_cons_succ])
            refine wpAnyH_take (i := 12) (v := ?_) (by simp only [List.getElem?_toArray, List.getElem?_cons_zero, List.getElem?_cons_succ]; rfl) (by kernel_rfl) (by kernel_rfl) (by kernel_rfl) (by exact fun _ _ _ h => h) (Or.inl ⟨by rfl, ?_⟩) (by assumption) ?_; rotate_left; (focus (intro w hSw; (try dsimp only at hSw); go_simp; try with_reducible rfl)); (try simp only [Act.put, List.setIfInBounds_toArray, List.set_cons_zero, List.set_cons_succ])
            refine wpAnyH_ready (rs := [4, 13]) (by kernel_rfl) (by simp) ?_
            refine AllReadyH.cons (by simp only [List.getElem?_toArray, List.getElem?_cons_zero, List.getElem?_cons_succ]; rfl) (fun K hK => ?_) ?_
            · go_simp
              (try simp only [hwu2])
              refine hK.out _ _ (hS0.then (alloc_below _ _)) ?_
              clear hHeld hK
              intro hHeld
              have hbt := chr_made2 w0 q (by omega)
              have hS1 := hS0.then (alloc_below w0 (.cells #[.int .u8 (48 + (q : Int))] 5))
              have ho1 := ho0.below (alloc_below w0 (.cells #[.int .u8 (48 + (q : Int))] 5))
              generalize hwx : w0.alloc (.cells #[.int .u8 (48 + (q : Int))] 5) = w1 at *
              clear hwx
              generalize w0.heap.size = pb at *
              (try simp only [Act.put, List.setIfInBounds_toArray, List.set_cons_zero, List.set_cons_succ])
              refine wpAnyH_ready (rs := [5, 13]) (by kernel_rfl) (by simp) ?_
              refine AllReadyH.cons (by simp only [List.getElem?_toArray, List.getElem?_cons_zero, List.getElem?_cons_succ]; rfl) (fun K hK => ?_) ?_
              · skip
                refine step_conv rfl _ rfl rfl hbt.conv ?_
                (try simp only [Act.put, List.setIfInBounds_toArray, List.set_cons_zero, List.set_cons_succ])
                refine hK.out _ _ (hS1) ?_
                clear hHeld hK
                intro hHeld
                have hS2 := hS1
                have ho2 := ho1
                obtain ⟨w2, hww⟩ : ∃ w', w1 = w' := ⟨_, rfl⟩
                rw [hww] at hS2 ho2 hHeld ⊢
                clear hww
                (try simp only [Act.put, List.setIfInBounds_toArray, List.set_cons_zero, List.set_cons_succ])
                refine wpAnyH_take (i := 6) (v := ?_) (by simp only [List.getElem?_toArray, List.getElem?_cons_zero, List.getElem?_cons_succ]; rfl) (by kernel_rfl) (by kernel_rfl) (by kernel_rfl) (by exact fun _ _ _ h => h) (Or.inl ⟨by rfl, ?_⟩) (by assumption) ?_; rotate_left; (focus (intro w hSw; (try dsimp only at hSw); go_simp; try with_reducible rfl)); (try simp only [Act.put, List.setIfInBounds_toArray, List.set_cons_zero, List.set_cons_succ])
                refine wpAnyH_ready (rs := [13]) (by kernel_rfl) (by simp) ?_
                refine AllReadyH.cons (by simp only [List.getElem?_toArray, List.getElem?_cons_zero, List.getElem?_cons_succ]; rfl) (fun K hK => ?_) AllReadyH.nil
                go_simp
                go_at_call 36
                refine (rlbottom_any _).mono ?_
                rintro e w3 ⟨rfl, hB⟩
                have hS3 := hS2.then hB
                have ho3 := ho2.below hB
                refine hK.out _ _ (hS3) ?_
                clear hHeld hK
                intro hHeld
                (try simp only [Act.put, List.setIfInBounds_toArray, List.set_cons_zero, List.set_cons_succ])
                refine wpAnyH_take (i := 14) (v := ?_) (by simp only [List.getElem?_toArray, List.getElem?_cons_zero, List.getElem?_cons_succ]; rfl) (by kernel_rfl) (by kernel_rfl) (by kernel_rfl) (by exact fun _ _ _ h => h) (Or.inl ⟨by rfl, ?_⟩) (by assumption) ?_; rotate_left; (focus (intro w hSw; (try dsimp only at hSw); go_simp; try with_reducible rfl)); (try simp only [Act.put, List.setIfInBounds_toArray, List.set_cons_zero, List.set_cons_succ])
                refine wpAnyH_ready (rs := [15]) (by kernel_rfl) (by simp) ?_
                refine AllReadyH.cons (by simp only [List.getElem?_toArray, List.getElem?_cons_zero, List.getElem?_cons_succ]; rfl) (fun K hK => ?_) AllReadyH.nil
                refine step_build1 pn_ok (by decide) rfl _ rfl [.string (⟨#[47, 108]⟩ ++ chr (48 + q)), .bool true, .int .i64 tt.s, .int .i64 tt.c, .int .i64 tt.i, .int .i64 tt.k, .slice (some ⟨w.heap.size + 1, 0, none⟩) 1 1, .int .i64 0, .int .i64 0, .int .i64 0, .int .i64 0, .slice none 0 0, .int .i64 bottomL.s, .int .i64 bottomL.c, .int .i64 bottomL.i, .int .i64 bottomL.k] rfl rfl ?_
                (try simp only [Act.put, List.setIfInBounds_toArray, List.set_cons_zero, List.set_cons_succ])
                refine hK.out _ _ (hS3.then (alloc_below _ _)) ?_
                clear hHeld hK
                intro hHeld
                obtain ⟨vz, wz, hap, hoz, hgz⟩ := OwnR.push pn_ok ho3 hS3.sz ⟨dirN q tt, some ⟨w.heap.size + 1, 0, none⟩, 1, none, 0⟩ [.string (⟨#[47, 108]⟩ ++ chr (48 + q)), .bool true, .int .i64 tt.s, .int .i64 tt.c, .int .i64 tt.i, .int .i64 tt.k, .slice (some ⟨w.heap.size + 1, 0, none⟩) 1 1, .int .i64 0, .int .i64 0, .int .i64 0, .int .i64 0, .slice none 0 0, .int .i64 bottomL.s, .int .i64 bottomL.c, .int .i64 bottomL.i, .int .i64 bottomL.k].toArray (by rw [dir_cs]) 36 (by rw [firstP_len]; have := hdl j; omega)
                have hbz := ho3.grew_below hS3.sz hgz
                have hSz := hS3.grown hbz
                rw [← hfs.out] at hoz
                (try simp only [Act.put, List.setIfInBounds_toArray, List.set_cons_zero, List.set_cons_succ])
                refine wpAnyH_ready (rs := [16]) (by kernel_rfl) (by simp) ?_
                refine AllReadyH.cons (by simp only [List.getElem?_toArray, List.getElem?_cons_zero, List.getElem?_cons_succ]; rfl) (fun K hK => ?_) AllReadyH.nil
                refine step_append rfl _ _ rfl rfl rfl rfl hap ?_
                (try simp only [Act.put, List.setIfInBounds_toArray, List.set_cons_zero, List.set_cons_succ])
                refine hK.out _ _ (hSz) ?_
                clear hHeld hK
                intro hHeld
                (try simp only [Act.put, List.setIfInBounds_toArray, List.set_cons_zero, List.set_cons_succ])
                refine wpAnyH_take (i := 17) (v := ?_) (by simp only [List.getElem?_toArray, List.getElem?_cons_zero, List.getElem?_cons_succ]; rfl) (by kernel_rfl) (by kernel_rfl) (by kernel_rfl) (by exact fun _ _ _ h => h) (Or.inl ⟨by rfl, ?_⟩) (by assumption) ?_; rotate_left; (focus (intro w hSw; (try dsimp only at hSw); go_simp; try with_reducible rfl)); (try simp only [Act.put, List.setIfInBounds_toArray, List.set_cons_zero, List.set_cons_succ])
                refine wpAnyH_done (by kernel_rfl) ?_ _
                go_wp2_with fail
                exact ⟨⟨j + 1, by omega, by simp, q + 1, by simp, hqn, hSz, hoz⟩, by simp [Go.RowKit.intOf]; omega⟩
              refine AllReadyH.cons (by simp only [List.getElem?_toArray, List.getElem?_cons_zero, List.getElem?_cons_succ]; rfl) (fun K hK => ?_) AllReadyH.nil
              go_simp
              go_at_call 36
              refine (rlbottom_any _).mono ?_
              rintro e w2 ⟨rfl, hB⟩
              have hS2 := hS1.then hB
              have ho2 := ho1.below hB
              have hbt := hbt.below hB
              refine hK.out _ _ (hS2) ?_
              clear hHeld hK
              intro hHeld
              (try simp only [Act.put, List.setIfInBounds_toArray, List.set_cons_zero, List.set_cons_succ])
              refine wpAnyH_ready (rs := [5]) (by kernel_rfl) (by simp) ?_
              refine AllReadyH.cons (by simp only [List.getElem?_toArray, List.getElem?_cons_zero, List.getElem?_cons_succ]; rfl) (fun K hK => ?_) AllReadyH.nil
              refine step_conv rfl _ rfl rfl hbt.conv ?_
              (try simp only [Act.put, List.setIfInBounds_toArray, List.set_cons_zero, List.set_cons_succ])
              refine hK.out _ _ (hS2) ?_
              clear hHeld hK
              intro hHeld
              have hS3 := hS2
              have ho3 := ho2
              obtain ⟨w3, hww⟩ : ∃ w', w2 = w' := ⟨_, rfl⟩
              rw [hww] at hS3 ho3 hHeld ⊢
              clear hww
              (try simp only [Act.put, List.setIfInBounds_toArray, List.set_cons_zero, List.set_cons_succ])
              refine wpAnyH_take (i := 6) (v := ?_) (by simp only [List.getElem?_toArray, List.getElem?_cons_zero, List.getElem?_cons_succ]; rfl) (by kernel_rfl) (by kernel_rfl) (by kernel_rfl) (by exact fun _ _ _ h => h) (Or.inl ⟨by rfl, ?_⟩) (by assumption) ?_; rotate_left; (focus (intro w hSw; (try dsimp only at hSw); go_simp; try with_reducible rfl)); (try simp only [Act.put, List.setIfInBounds_toArray, List.set_cons_zero, List.set_cons_succ])
              refine wpAnyH_take (i := 14) (v := ?_) (by simp only [List.getElem?_toArray, List.getElem?_cons_zero, List.getElem?_cons_succ]; rfl) (by kernel_rfl) (by kernel_rfl) (by kernel_rfl) (by exact fun _ _ _ h => h) (Or.inl ⟨by rfl, ?_⟩) (by assumption) ?_; rotate_left; (focus (intro w hSw; (try dsimp only at hSw); go_simp; try with_reducible rfl)); (try simp only [Act.put, List.setIfInBounds_toArray, List.set_cons_zero, List.set_cons_succ])
              refine wpAnyH_ready (rs := [15]) (by kernel_rfl) (by simp) ?_
              refine AllReadyH.cons (by simp only [List.getElem?_toArray, List.getElem?_cons_zero, List.getElem?_cons_succ]; rfl) (fun K hK => ?_) AllReadyH.nil
              refine step_build1 pn_ok (by decide) rfl _ rfl [.string (⟨#[47, 108]⟩ ++ chr (48 + q)), .bool true, .int .i64 tt.s, .int .i64 tt.c, .int .i64 tt.i, .int .i64 tt.k, .slice (some ⟨w.heap.size + 1, 0, none⟩) 1 1, .int .i64 0, .int .i64 0, .int .i64 0, .int .i64 0, .slice none 0 0, .int .i64 bottomL.s, .int .i64 bottomL.c, .int .i64 bottomL.i, .int .i64 bottomL.k] rfl rfl ?_
              (try simp only [Act.put, List.setIfInBounds_toArray, List.set_cons_zero, List.set_cons_succ])
              refine hK.out _ _ (hS3.then (alloc_below _ _)) ?_
              clear hHeld hK
              intro hHeld
              obtain ⟨vz, wz, hap, hoz, hgz⟩ := OwnR.push pn_ok ho3 hS3.sz ⟨dirN q tt, some ⟨w.heap.size + 1, 0, none⟩, 1, none, 0⟩ [.string (⟨#[47, 108]⟩ ++ chr (48 + q)), .bool true, .int .i64 tt.s, .int .i64 tt.c, .int .i64 tt.i, .int .i64 tt.k, .slice (some ⟨w.heap.size + 1, 0, none⟩) 1 1, .int .i64 0, .int .i64 0, .int .i64 0, .int .i64 0, .slice none 0 0, .int .i64 bottomL.s, .int .i64 bottomL.c, .int .i64 bottomL.i, .int .i64 bottomL.k].toArray (by rw [dir_cs]) 36 (by rw [firstP_len]; have := hdl j; omega)
              have hbz := ho3.grew_below hS3.sz hgz
              have hSz := hS3.grown hbz
              rw [← hfs.out] at hoz
              (try simp only [Act.put, List.setIfInBounds_toArray, List.set_cons_zero, List.set_cons_succ])
              refine wpAnyH_ready (rs := [16]) (by kernel_rfl) (by simp) ?_
              refine AllReadyH.cons (by simp only [List.getElem?_toArray, List.getElem?_cons_zero, List.getElem?_cons_succ]; rfl) (fun K hK => ?_) AllReadyH.nil
              refine step_append rfl _ _ rfl rfl rfl rfl hap ?_
              (try simp only [Act.put, List.setIfInBounds_toArray, List.set_cons_zero, List.set_cons_succ])
              refine hK.out _ _ (hSz) ?_
              clear hHeld hK
              intro hHeld
              (try simp only [Act.put, List.setIfInBounds_toArray, List.set_cons_zero, List.set_cons_succ])
              refine wpAnyH_take (i := 17) (v := ?_) (by simp only [List.getElem?_toArray, List.getElem?_cons_zero, List.getElem?_cons_succ]; rfl) (by kernel_rfl) (by kernel_rfl) (by kernel_rfl) (by exact fun _ _ _ h => h) (Or.inl ⟨by rfl, ?_⟩) (by assumption) ?_; rotate_left; (focus (intro w hSw; (try dsimp only at hSw); go_simp; try with_reducible rfl)); (try simp only [Act.put, List.setIfInBounds_toArray, List.set_cons_zero, List.set_cons_succ])
              refine wpAnyH_done (by kernel_rfl) ?_ _
              go_wp2_with fail
              exact ⟨⟨j + 1, by omega, by simp, q + 1, by simp, hqn, hSz, hoz⟩, by simp [Go.RowKit.intOf]; omega⟩
            refine AllReadyH.cons (by simp only [List.getElem?_toArray, List.getElem?_cons_zero, List.getElem?_cons_succ]; rfl) (fun K hK => ?_) AllReadyH.nil
            go_simp
            go_at_call 36
            refine (rlbottom_any _).mono ?_
            rintro e w1 ⟨rfl, hB⟩
            have hS1 := hS0.then hB
            have ho1 := ho0.below hB
            refine hK.out _ _ (hS1) ?_
            clear hHeld hK
            intro hHeld
            (try simp only [Act.put, List.setIfInBounds_toArray, List.set_cons_zero, List.set_cons_succ])
            refine wpAnyH_ready (rs := [4]) (by kernel_rfl) (by simp) ?_
            refine AllReadyH.cons (by simp only [List.getElem?_toArray, List.getElem?_cons_zero, List.getElem?_cons_succ]; rfl) (fun K hK => ?_) AllReadyH.nil
            go_simp
            (try simp only [hwu2])
            refine hK.out _ _ (hS1.then (alloc_below _ _)) ?_
            clear hHeld hK
            intro hHeld
            have hbt := chr_made2 w1 q (by omega)
            have hS2 := hS1.then (alloc_below w1 (.cells #[.int .u8 (48 + (q : Int))] 5))
            have ho2 := ho1.below (alloc_below w1 (.cells #[.int .u8 (48 + (q : Int))] 5))
            generalize hwx : w1.alloc (.cells #[.int .u8 (48 + (q : Int))] 5) = w2 at *
            clear hwx
            generalize w1.heap.size = pb at *
            (try simp only [Act.put, List.setIfInBounds_toArray, List.set_cons_zero, List.set_cons_succ])
            refine wpAnyH_ready (rs := [5]) (by kernel_rfl) (by simp) ?_
            refine AllReadyH.cons (by simp only [List.getElem?_toArray, List.getElem?_cons_zero, List.getElem?_cons_succ]; rfl) (fun K hK => ?_) AllReadyH.nil
            refine step_conv rfl _ rfl rfl hbt.conv ?_
            (try simp only [Act.put, List.setIfInBounds_toArray, List.set_cons_zero, List.set_cons_succ])
            refine hK.out _ _ (hS2) ?_
            clear hHeld hK
            intro hHeld
            have hS3 := hS2
            have ho3 := ho2
            obtain ⟨w3, hww⟩ : ∃ w', w2 = w' := ⟨_, rfl⟩
            rw [hww] at hS3 ho3 hHeld ⊢
            clear hww
            (try simp only [Act.put, List.setIfInBounds_toArray, List.set_cons_zero, List.set_cons_succ])
            refine wpAnyH_take (i := 6) (v := ?_) (by simp only [List.getElem?_toArray, List.getElem?_cons_zero, List.getElem?_cons_succ]; rfl) (by kernel_rfl) (by kernel_rfl) (by kernel_rfl) (by exact fun _ _ _ h => h) (Or.inl ⟨by rfl, ?_⟩) (by assumption) ?_; rotate_left; (focus (intro w hSw; (try dsimp only at hSw); go_simp; try with_reducible rfl)); (try simp only [Act.put, List.setIfInBounds_toArray, List.set_cons_zero, List.set_cons_succ])
            refine wpAnyH_take (i := 14) (v := ?_) (by simp only [List.getElem?_toArray, List.getElem?_cons_zero, List.getElem?_cons_succ]; rfl) (by kernel_rfl) (by kernel_rfl) (by kernel_rfl) (by exact fun _ _ _ h => h) (Or.inl ⟨by rfl, ?_⟩) (by assumption) ?_; rotate_left; (focus (intro w hSw; (try dsimp only at hSw); go_simp; try with_reducible rfl)); (try simp only [Act.put, List.setIfInBounds_toArray, List.set_cons_zero, List.set_cons_succ])
            refine wpAnyH_ready (rs := [15]) (by kernel_rfl) (by simp) ?_
            refine AllReadyH.cons (by simp only [List.getElem?_toArray, List.getElem?_cons_zero, List.getElem?_cons_succ]; rfl) (fun K hK => ?_) AllReadyH.nil
            refine step_build1 pn_ok (by decide) rfl _ rfl [.string (⟨#[47, 108]⟩ ++ chr (48 + q)), .bool true, .int .i64 tt.s, .int .i64 tt.c, .int .i64 tt.i, .int .i64 tt.k, .slice (some ⟨w.heap.size + 1, 0, none⟩) 1 1, .int .i64 0, .int .i64 0, .int .i64 0, .int .i64 0, .slice none 0 0, .int .i64 bottomL.s, .int .i64 bottomL.c, .int .i64 bottomL.i, .int .i64 bottomL.k] rfl rfl ?_
            (try simp only [Act.put, List.setIfInBounds_toArray, List.set_cons_zero, List.set_cons_succ])
            refine hK.out _ _ (hS3.then (alloc_below _ _)) ?_
            clear hHeld hK
            intro hHeld
            obtain ⟨vz, wz, hap, hoz, hgz⟩ := OwnR.push pn_ok ho3 hS3.sz ⟨dirN q tt, some ⟨w.heap.size + 1, 0, none⟩, 1, none, 0⟩ [.string (⟨#[47, 108]⟩ ++ chr (48 + q)), .bool true, .int .i64 tt.s, .int .i64 tt.c, .int .i64 tt.i, .int .i64 tt.k, .slice (some ⟨w.heap.size + 1, 0, none⟩) 1 1, .int .i64 0, .int .i64 0, .int .i64 0, .int .i64 0, .slice none 0 0, .int .i64 bottomL.s, .int .i64 bottomL.c, .int .i64 bottomL.i, .int .i64 bottomL.k].toArray (by rw [dir_cs]) 36 (by rw [firstP_len]; have := hdl j; omega)
            have hbz := ho3.grew_below hS3.sz hgz
            have hSz := hS3.grown hbz
            rw [← hfs.out] at hoz
            (try simp only [Act.put, List.setIfInBounds_toArray, List.set_cons_zero, List.set_cons_succ])
            refine wpAnyH_ready (rs := [16]) (by kernel_rfl) (by simp) ?_
            refine AllReadyH.cons (by simp only [List.getElem?_toArray, List.getElem?_cons_zero, List.getElem?_cons_succ]; rfl) (fun K hK => ?_) AllReadyH.nil
            refine step_append rfl _ _ rfl rfl rfl rfl hap ?_
            (try simp only [Act.put, List.setIfInBounds_toArray, List.set_cons_zero, List.set_cons_succ])
            refine hK.out _ _ (hSz) ?_
            clear hHeld hK
            intro hHeld
            (try simp only [Act.put, List.setIfInBounds_toArray, List.set_cons_zero, List.set_cons_succ])
            refine wpAnyH_take (i := 17) (v := ?_) (by simp only [List.getElem?_toArray, List.getElem?_cons_zero, List.getElem?_cons_succ]; rfl) (by kernel_rfl) (by kernel_rfl) (by kernel_rfl) (by exact fun _ _ _ h => h) (Or.inl ⟨by rfl, ?_⟩) (by assumption) ?_; rotate_left; (focus (intro w hSw; (try dsimp only at hSw); go_simp; try with_reducible rfl)); (try simp only [Act.put, List.setIfInBounds_toArray, List.set_cons_zero, List.set_cons_succ])
            refine wpAnyH_done (by kernel_rfl) ?_ _
            go_wp2_with fail
            exact ⟨⟨j + 1, by omega, by simp, q + 1, by simp, hqn, hSz, hoz⟩, by simp [Go.RowKit.intOf]; omega⟩
          · replace hfs := hfs.out
            replace hds := hds.out
            rw [hb, if_pos rfl] at hfs hds
            have hqn : Aside (q = (distTo ts (j + 1)).length) := by rw [hq.out]; exact hds.symm
            rw [← hfs] at ho2
            clear hfs hds
            go_wp2_with fail
            exact ⟨⟨j + 1, by omega, by simp, q, rfl, hqn, hS2, ho2⟩, by simp [Go.RowKit.intOf]; omega⟩
    · obtain rfl : i = n := by omega
      go_wp2_with fail
      go_ret
      exact ⟨_, rfl, ho.lower (by omega), hS.all, hS.bl⟩
end Go.Proofs.Ytajondkpdgiolaa
