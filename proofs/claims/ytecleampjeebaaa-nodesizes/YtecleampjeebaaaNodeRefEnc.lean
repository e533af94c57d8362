/-
  NODES, WRITTEN: the document's own Encode (donjonref10). Written by mk_nenc.py.
-/
import Derived.Test.YtecleampjeebaaaNodeEntry
import Derived.Test.YtecleampjeebaaaGrs
namespace Go.Proofs.Ytecleampjeebaaa
open Go.RowKit
set_option linter.unusedSimpArgs false
set_option linter.unusedVariables false

/-- A node. -/
structure Nod where
  path : ByteArray
  dir : Bool
  label : Lab
  acl : List Gr
  r1 : Int
  r2 : Int
  r3 : Int
  gates : Int
  words : List Int
  by_ : Lab
abbrev Nod.v (n : Nod) (aa : Option Addr) (ca : Nat) (wa : Option Addr) (cw : Nat) : Value := .agg #[.string n.path, .bool n.dir, .int .i64 n.label.s, .int .i64 n.label.c, .int .i64 n.label.i, .int .i64 n.label.k, .slice aa n.acl.length ca, .int .i64 n.r1, .int .i64 n.r2, .int .i64 n.r3, .int .i64 n.gates, .slice wa n.words.length cw, .int .i64 n.by_.s, .int .i64 n.by_.c, .int .i64 n.by_.i, .int .i64 n.by_.k]
def encG (q : Gr) : List UInt8 := encT q.u ++ [lowB q.m]
def dirB (d : Bool) : UInt8 := if d then 1 else 0
def encN (n : Nod) : List UInt8 := encT n.path ++ [dirB n.dir] ++ encL n.label ++ encL n.by_ ++ [lowB (n.acl.length : Int)] ++ n.acl.flatMap encG ++ [lowB n.r1, lowB n.r2, lowB n.r3, lowB n.gates, lowB (n.words.length : Int)] ++ n.words.flatMap encW
/-- Where a node's rows lie. -/
def WrdsAt (W : World) (a : Option Addr) (l : List Int) : Prop := ∀ j x, l[j]? = some x → ∃ y, a = some y ∧ W.cell? (y.add j) = some (.int .i64 x)
theorem WrdsAt.below {W W' : World} {a : Option Addr} {l : List Int} (h : WrdsAt W a l) (b : Below W.heap.size W W') : WrdsAt W' a l := fun j q hq => by
  obtain ⟨y, hy, h1⟩ := h j q hq
  exact ⟨y, hy, (b.cell (World.block_lt_of_cell? _ _ h1)).trans h1⟩
structure Nod.Small (n : Nod) : Prop where
  p : n.path.size < 100000
  a : n.acl.length < 300
  u : ∀ q ∈ n.acl, q.u.size < 1000
  w : n.words.length < 1000
abbrev NBox (W : World) (g : Nat) (n : Nod) (aa : Option Addr) (ca : Nat) (wa : Option Addr) (cw : Nat) : Prop := W.cell? ⟨g, 0, none⟩ = some (.string n.path) ∧ W.cell? ⟨g, 1, none⟩ = some (.bool n.dir) ∧ W.cell? ⟨g, 2, none⟩ = some (.int .i64 n.label.s) ∧ W.cell? ⟨g, 3, none⟩ = some (.int .i64 n.label.c) ∧ W.cell? ⟨g, 4, none⟩ = some (.int .i64 n.label.i) ∧ W.cell? ⟨g, 5, none⟩ = some (.int .i64 n.label.k) ∧ W.cell? ⟨g, 6, none⟩ = some (.slice aa n.acl.length ca) ∧ W.cell? ⟨g, 7, none⟩ = some (.int .i64 n.r1) ∧ W.cell? ⟨g, 8, none⟩ = some (.int .i64 n.r2) ∧ W.cell? ⟨g, 9, none⟩ = some (.int .i64 n.r3) ∧ W.cell? ⟨g, 10, none⟩ = some (.int .i64 n.gates) ∧ W.cell? ⟨g, 11, none⟩ = some (.slice wa n.words.length cw) ∧ W.cell? ⟨g, 12, none⟩ = some (.int .i64 n.by_.s) ∧ W.cell? ⟨g, 13, none⟩ = some (.int .i64 n.by_.c) ∧ W.cell? ⟨g, 14, none⟩ = some (.int .i64 n.by_.i) ∧ W.cell? ⟨g, 15, none⟩ = some (.int .i64 n.by_.k)
theorem NBox.keep {W W' : World} {g : Nat} {n : Nod} {aa : Option Addr} {ca : Nat} {wa : Option Addr} {cw : Nat} (h : NBox W g n aa ca wa cw) (b : Below (g + 1) W W') : NBox W' g n aa ca wa cw := by
  obtain ⟨h0, h1, h2, h3, h4, h5, h6, h7, h8, h9, h10, h11, h12, h13, h14, h15⟩ := h
  have c : ∀ k, W'.cell? ⟨g, k, none⟩ = W.cell? ⟨g, k, none⟩ := fun k => b.cell (p := ⟨g, k, none⟩) (Nat.lt_succ_self g)
  exact ⟨(c _).trans h0, (c _).trans h1, (c _).trans h2, (c _).trans h3, (c _).trans h4, (c _).trans h5, (c _).trans h6, (c _).trans h7, (c _).trans h8, (c _).trans h9, (c _).trans h10, (c _).trans h11, (c _).trans h12, (c _).trans h13, (c _).trans h14, (c _).trans h15⟩
theorem keepG {W W' : World} {g : Nat} {n : Nod} {aa : Option Addr} {ca : Nat} {wa : Option Addr} {cw : Nat} {y : Addr} {q : Gr} (hy : y.block < g + 1) (h : NBox W g n aa ca wa cw ∧ W.cell? y = some (.string q.u) ∧ W.cell? ⟨y.block, y.off + 1, none⟩ = some (.int .i64 q.m)) (b : Below (g + 1) W W') : NBox W' g n aa ca wa cw ∧ W'.cell? y = some (.string q.u) ∧ W'.cell? ⟨y.block, y.off + 1, none⟩ = some (.int .i64 q.m) :=
  ⟨h.1.keep b, (b.cell hy).trans h.2.1, (b.cell (p := ⟨y.block, _, none⟩) hy).trans h.2.2⟩
def ncells (n : Nod) (aa : Option Addr) (ca : Nat) (wa : Option Addr) (cw : Nat) : Array Value := #[.string n.path, .bool n.dir, .int .i64 n.label.s, .int .i64 n.label.c, .int .i64 n.label.i, .int .i64 n.label.k, .slice aa n.acl.length ca, .int .i64 n.r1, .int .i64 n.r2, .int .i64 n.r3, .int .i64 n.gates, .slice wa n.words.length cw, .int .i64 n.by_.s, .int .i64 n.by_.c, .int .i64 n.by_.i, .int .i64 n.by_.k]
theorem nbox_alloc (w : World) (n : Nod) (aa : Option Addr) (ca : Nat) (wa : Option Addr) (cw : Nat) (T : TypeId) : NBox (w.alloc (.cells (ncells n aa ca wa cw) T)) w.heap.size n aa ca wa cw := by
  refine ⟨?_, ?_, ?_, ?_, ?_, ?_, ?_, ?_, ?_, ?_, ?_, ?_, ?_, ?_, ?_, ?_⟩ <;> (rw [World.cell?_alloc_at _ _ _ _ rfl]; rfl)
theorem flat_take {α β : Type} (f : α → List β) (l : List α) {i : Nat} {q : α} (h : l[i]? = some q) : (l.take (i + 1)).flatMap f = (l.take i).flatMap f ++ f q := by
  rw [List.take_add_one, h]
  simp
theorem flat_len {α β : Type} (f : α → List β) (m : Nat) (l : List α) (h : ∀ q ∈ l, (f q).length ≤ m) : (l.flatMap f).length ≤ l.length * m := by
  induction l with
  | nil => simp
  | cons q r ih =>
    rw [List.flatMap_cons, List.length_append, List.length_cons, Nat.add_mul, Nat.one_mul]
    have h1 := h q List.mem_cons_self
    have h2 := ih fun z hz => h z (List.mem_cons_of_mem _ hz)
    omega

set_option maxRecDepth 8000 in
set_option maxHeartbeats 8000000 in
theorem rencN_any (n : Nod) (aa : Option Addr) (ca : Nat) (wa : Option Addr) (cw : Nat) (hm : n.Small) (w : World) (hG : GrsAt w aa n.acl) (hW : WrdsAt w wa n.words) :
    Calls Try.prog 15 #[n.v aa ca wa cw] w fun r w' => ∃ v', r = .returned v' ∧ OwnB w' w.heap.size v' (encN n) ∧ Below w.heap.size w w' := by
  have hp := hm.p
  have ha := hm.a
  have hw := hm.w
  have hu := hm.u
  have hS : NBox (w.alloc (.cells (ncells n aa ca wa cw) 29)) w.heap.size n aa ca wa cw := nbox_alloc w n aa ca wa cw _
  have hB0 : Below w.heap.size w (w.alloc (.cells (ncells n aa ca wa cw) 29)) := alloc_below _ _
  have hz : (w.alloc (.cells (ncells n aa ca wa cw) 29)).heap.size = w.heap.size + 1 := World.size_alloc _ _
  have wa1 := wrap_u8 (n.acl.length : Int)
  have ww1 := wrap_u8 (n.words.length : Int)
  have wr1 := wrap_u8 n.r1
  have wr2 := wrap_u8 n.r2
  have wr3 := wrap_u8 n.r3
  have wr4 := wrap_u8 n.gates
  unfold ncells at hS hB0 hz
  go_enter Try.func15, Try.ntmps15
  go_wp2_with fail
  generalize w.alloc (.cells #[.string n.path, .bool n.dir, .int .i64 n.label.s, .int .i64 n.label.c, .int .i64 n.label.i, .int .i64 n.label.k, .slice aa n.acl.length ca, .int .i64 n.r1, .int .i64 n.r2, .int .i64 n.r3, .int .i64 n.gates, .slice wa n.words.length cw, .int .i64 n.by_.s, .int .i64 n.by_.c, .int .i64 n.by_.i, .int .i64 n.by_.k] 29) = W at *
  have hz0 : w.heap.size + 1 ≤ W.heap.size := by omega
  have ho0 : OwnB W (w.heap.size + 1) (.slice none 0 0) [] := ownB_nil _ _
  refine (rtext_any (w.heap.size + 1) _ [] n.path (by omega) (by simp) _ ho0 hz0).mono ?_
  rintro r W1 ⟨v1, rfl, ho1, hg1⟩
  have hb1 := hg1.ownB ho0 hz0
  have hS1 := hS.keep hb1
  have hB1 := hB0.trans (hb1.mono (Nat.le_succ _))
  have hz1 := Nat.le_trans hz0 hb1.size
  rw [List.nil_append] at ho1
  clear hS hB0 hz hz0 ho0 hg1 hb1
  cases hd : n.dir
  all_goals (
    obtain ⟨v2, W2, hap2, ho2, hg2⟩ := append_made W1 (w.heap.size + 1) v1 (encT n.path) [dirB n.dir] #[.int .u8 ((dirB n.dir).toNat : Int)] rfl ho1 hz1 (by simp [encT_len]; omega) (by simp)
    have hb2 := hg2.ownB ho1 hz1
    have hS2 := hS1.keep hb2
    have hB2 := hB1.trans (hb2.mono (Nat.le_succ _))
    have hz2 := Nat.le_trans hz1 hb2.size
    rw [show ([dirB n.dir] : List UInt8).length = 1 from rfl] at hap2
    simp only [hd, dirB, if_true, if_false, Bool.false_eq_true] at hap2
    replace hap2 : (Builtin.append_ #[34, 34] 34 #[v1, .slice (some ⟨W1.heap.size, 0, none⟩) 1 1]).run Try.prog (W1.alloc (.cells #[.int .u8 (if n.dir = true then 1 else 0)] 5)) = .ok v2 W2 := by rw [hd]; exact hap2
    simp only [hd, if_true, if_false, Bool.false_eq_true] at hap2
    go_wp2_with (first | (refine wpList_append_u8 rfl _ _ rfl rfl rfl rfl hap2 ?_) | fail)
    clear hS1 hB1 hz1 ho1 hg2 hb2 hap2
    go_cut [3] from 4 (fun s3 wc => ∃ v, s3 = v ∧ NBox wc w.heap.size n aa ca wa cw ∧ w.heap.size + 1 ≤ wc.heap.size ∧ OwnB wc (w.heap.size + 1) v (encT n.path ++ [dirB n.dir] ++ encL n.label ++ encL n.by_ ++ [lowB (n.acl.length : Int)]) ∧ Below w.heap.size w wc)
    case first =>
      have hS0 : NBox W2.drew w.heap.size n aa ca wa cw := hS2
      have hB0 : Below w.heap.size w W2.drew := hB2.drew
      have hz0 : w.heap.size + 1 ≤ W2.drew.heap.size := hz2
      have ho0 := ho2.below (Below.refl _ W2).drew
      clear hS2 hB2 hz2 ho2
      refine wp_region_held_drew (S := (fun W => NBox W w.heap.size n aa ca wa cw)) (by kernel_rfl) (by exact hS0) ?_
      intro hHeld
      generalize W2.drew = w0 at *
      refine wpAnyH_take (i := 0) (v := ?_) (by simp only [List.getElem?_toArray, List.getElem?_cons_zero, List.getElem?_cons_succ]; rfl) (by kernel_rfl) (by kernel_rfl) (by kernel_rfl) (by exact fun _ _ _ h => h) (Or.inl ⟨by rfl, ?_⟩) (by assumption) ?_; rotate_left; (focus (intro w hSw; (try dsimp only at hSw); go_simp; try with_reducible rfl)); (try simp only [Act.put, List.setIfInBounds_toArray, List.set_cons_zero, List.set_cons_succ])
      refine wpAnyH_take (i := 1) (v := ?_) (by simp only [List.getElem?_toArray, List.getElem?_cons_zero, List.getElem?_cons_succ]; rfl) (by kernel_rfl) (by kernel_rfl) (by kernel_rfl) (by exact fun _ _ _ h => h) (Or.inl ⟨by rfl, ?_⟩) (by assumption) ?_; rotate_left; (focus (intro w hSw; (try dsimp only at hSw); go_simp; try with_reducible rfl)); (try simp only [Act.put, List.setIfInBounds_toArray, List.set_cons_zero, List.set_cons_succ])
      refine wpAnyH_take (i := 2) (v := ?_) (by simp only [List.getElem?_toArray, List.getElem?_cons_zero, List.getElem?_cons_succ]; rfl) (by kernel_rfl) (by kernel_rfl) (by kernel_rfl) (by exact fun _ _ _ h => h) (Or.inl ⟨by rfl, ?_⟩) (by assumption) ?_; rotate_left; (focus (intro w hSw; (try dsimp only at hSw); go_simp; try with_reducible rfl)); (try simp only [Act.put, List.setIfInBounds_toArray, List.set_cons_zero, List.set_cons_succ])
      refine wpAnyH_take (i := 4) (v := ?_) (by simp only [List.getElem?_toArray, List.getElem?_cons_zero, List.getElem?_cons_succ]; rfl) (by kernel_rfl) (by kernel_rfl) (by kernel_rfl) (by exact fun _ _ _ h => h) (Or.inl ⟨by rfl, ?_⟩) (by assumption) ?_; rotate_left; (focus (intro w hSw; (try dsimp only at hSw); go_simp; try with_reducible rfl)); (try simp only [Act.put, List.setIfInBounds_toArray, List.set_cons_zero, List.set_cons_succ])
      refine wpAnyH_take (i := 5) (v := ?_) (by simp only [List.getElem?_toArray, List.getElem?_cons_zero, List.getElem?_cons_succ]; rfl) (by kernel_rfl) (by kernel_rfl) (by kernel_rfl) (by exact fun _ _ _ h => h) (Or.inl ⟨by rfl, ?_⟩) (by assumption) ?_; rotate_left; (focus (intro w hSw; (try dsimp only at hSw); go_simp; try with_reducible rfl)); (try simp only [Act.put, List.setIfInBounds_toArray, List.set_cons_zero, List.set_cons_succ])
      refine wpAnyH_take (i := 7) (v := ?_) (by simp only [List.getElem?_toArray, List.getElem?_cons_zero, List.getElem?_cons_succ]; rfl) (by kernel_rfl) (by kernel_rfl) (by kernel_rfl) (by exact fun _ _ _ h => h) (Or.inl ⟨by rfl, ?_⟩) (by assumption) ?_; rotate_left; (focus (intro w hSw; (try dsimp only at hSw); go_simp; try with_reducible rfl)); (try simp only [Act.put, List.setIfInBounds_toArray, List.set_cons_zero, List.set_cons_succ])
      refine wpAnyH_take (i := 8) (v := ?_) (by simp only [List.getElem?_toArray, List.getElem?_cons_zero, List.getElem?_cons_succ]; rfl) (by kernel_rfl) (by kernel_rfl) (by kernel_rfl) (by exact fun _ _ _ h => h) (Or.inl ⟨by rfl, ?_⟩) (by assumption) ?_; rotate_left; (focus (intro w hSw; (try dsimp only at hSw); go_simp; try with_reducible rfl)); (try simp only [Act.put, List.setIfInBounds_toArray, List.set_cons_zero, List.set_cons_succ])
      refine wpAnyH_take (i := 9) (v := ?_) (by simp only [List.getElem?_toArray, List.getElem?_cons_zero, List.getElem?_cons_succ]; rfl) (by kernel_rfl) (by kernel_rfl) (by kernel_rfl) (by exact fun _ _ _ h => h) (Or.inl ⟨by rfl, ?_⟩) (by assumption) ?_; rotate_left; (focus (intro w hSw; (try dsimp only at hSw); go_simp; try with_reducible rfl)); (try simp only [Act.put, List.setIfInBounds_toArray, List.set_cons_zero, List.set_cons_succ])
      refine wpAnyH_take (i := 10) (v := ?_) (by simp only [List.getElem?_toArray, List.getElem?_cons_zero, List.getElem?_cons_succ]; rfl) (by kernel_rfl) (by kernel_rfl) (by kernel_rfl) (by exact fun _ _ _ h => h) (Or.inl ⟨by rfl, ?_⟩) (by assumption) ?_; rotate_left; (focus (intro w hSw; (try dsimp only at hSw); go_simp; try with_reducible rfl)); (try simp only [Act.put, List.setIfInBounds_toArray, List.set_cons_zero, List.set_cons_succ])
      refine wpAnyH_ready (rs := [3, 11]) (by kernel_rfl) (by simp) ?_
      refine AllReadyH.cons (by simp only [List.getElem?_toArray, List.getElem?_cons_zero, List.getElem?_cons_succ]; rfl) (fun K hK => ?_) ?_
      · go_simp
        go_at_call 38
        refine (rlab_any (w.heap.size + 1) _ (encT n.path ++ [dirB n.dir]) n.label (by (try simp [encT_len, encL_len, encW_len]) <;> omega) _ ho0 hz0).mono ?_
        rintro e w1 ⟨v1, rfl, ho1, hg1⟩
        have hb1 := hg1.ownB ho0 hz0
        have hS1 := NBox.keep hS0 hb1
        have hz1 := Nat.le_trans hz0 hb1.size
        have hP1 := hb1
        refine hK.out _ _ (hS1) ?_
        clear hHeld hK
        intro hHeld
        (try simp only [Act.put, List.setIfInBounds_toArray, List.set_cons_zero, List.set_cons_succ])
        refine wpAnyH_ready (rs := [6, 11]) (by kernel_rfl) (by simp) ?_
        refine AllReadyH.cons (by simp only [List.getElem?_toArray, List.getElem?_cons_zero, List.getElem?_cons_succ]; rfl) (fun K hK => ?_) ?_
        · go_simp
          go_at_call 38
          refine (rlab_any (w.heap.size + 1) _ ((encT n.path ++ [dirB n.dir]) ++ encL n.label) n.by_ (by (try simp [encT_len, encL_len, encW_len]) <;> omega) _ ho1 hz1).mono ?_
          rintro e w2 ⟨v2, rfl, ho2, hg2⟩
          have hb2 := hg2.ownB ho1 hz1
          have hS2 := NBox.keep hS1 hb2
          have hz2 := Nat.le_trans hz1 hb2.size
          have hP2 := hP1.trans hb2
          refine hK.out _ _ (hS2) ?_
          clear hHeld hK
          intro hHeld
          (try simp only [Act.put, List.setIfInBounds_toArray, List.set_cons_zero, List.set_cons_succ])
          refine wpAnyH_ready (rs := [11]) (by kernel_rfl) (by simp) ?_
          refine AllReadyH.cons (by simp only [List.getElem?_toArray, List.getElem?_cons_zero, List.getElem?_cons_succ]; rfl) (fun K hK => ?_) AllReadyH.nil
          go_simp
          refine hK.out _ _ (NBox.keep hS2 ((alloc_below _ _).mono hz2)) ?_
          clear hHeld hK
          intro hHeld
          have hbm := bytes_made w2 [lowB (n.acl.length : Int)] #[.int .u8 ((lowB (n.acl.length : Int)).toNat : Int)] rfl
          have hpn := ho2.apart
          have hpl : w2.heap.size < (w2.alloc (.cells #[.int .u8 ((lowB (n.acl.length : Int)).toNat : Int)] 5)).heap.size := by rw [World.size_alloc]; exact Nat.lt_succ_self _
          have hb3 := (alloc_below w2 (.cells #[.int .u8 ((lowB (n.acl.length : Int)).toNat : Int)] 5)).mono hz2
          have ho3 := ho2.below (alloc_below w2 (.cells #[.int .u8 ((lowB (n.acl.length : Int)).toNat : Int)] 5))
          have hS3 := NBox.keep hS2 hb3
          have hz3 := Nat.le_trans hz2 hb3.size
          have hP3 := hP2.trans hb3
          generalize hw3 : w2.alloc (.cells #[.int .u8 ((lowB (n.acl.length : Int)).toNat : Int)] 5) = w3 at *
          generalize hp : w2.heap.size = p at *
          rw [show ([lowB (n.acl.length : Int)] : List UInt8).length = 1 from rfl] at hbm
          clear hw3 hp
          obtain ⟨vz, wz, hap, hoz, hgz⟩ := append_at w3 (w.heap.size + 1) _ (((encT n.path ++ [dirB n.dir]) ++ encL n.label) ++ encL n.by_) ⟨p, 0, none⟩ 1 1 [lowB (n.acl.length : Int)] hbm ho3 hz3 (by (try simp [encT_len, encL_len, encW_len]) <;> omega) (by omega)
          have hbz := hgz.ownB ho3 hz3
          have hSz := NBox.keep hS3 hbz
          have hzz := Nat.le_trans hz3 hbz.size
          have hB := hP3.trans hbz
          (try simp only [Act.put, List.setIfInBounds_toArray, List.set_cons_zero, List.set_cons_succ])
          refine wpAnyH_ready (rs := [12]) (by kernel_rfl) (by simp) ?_
          refine AllReadyH.cons (by simp only [List.getElem?_toArray, List.getElem?_cons_zero, List.getElem?_cons_succ]; rfl) (fun K hK => ?_) AllReadyH.nil
          refine step_append_u8 rfl _ _ rfl rfl rfl rfl hap ?_
          (try simp only [Act.put, List.setIfInBounds_toArray, List.set_cons_zero, List.set_cons_succ])
          refine hK.out _ _ (hSz) ?_
          clear hHeld hK
          intro hHeld
          (try simp only [Act.put, List.setIfInBounds_toArray, List.set_cons_zero, List.set_cons_succ])
          refine wpAnyH_take (i := 13) (v := ?_) (by simp only [List.getElem?_toArray, List.getElem?_cons_zero, List.getElem?_cons_succ]; rfl) (by kernel_rfl) (by kernel_rfl) (by kernel_rfl) (by exact fun _ _ _ h => h) (Or.inl ⟨by rfl, ?_⟩) (by assumption) ?_; rotate_left; (focus (intro w hSw; (try dsimp only at hSw); go_simp; try with_reducible rfl)); (try simp only [Act.put, List.setIfInBounds_toArray, List.set_cons_zero, List.set_cons_succ])
          refine wpAnyH_done (by kernel_rfl) ?_ _
          go_wp2_with fail
          go_meet
          exact ⟨_, rfl, hSz, hzz, by simpa using hoz, hB0.trans (hB.mono (Nat.le_succ _))⟩
        refine AllReadyH.cons (by simp only [List.getElem?_toArray, List.getElem?_cons_zero, List.getElem?_cons_succ]; rfl) (fun K hK => ?_) AllReadyH.nil
        go_simp
        refine hK.out _ _ (NBox.keep hS1 ((alloc_below _ _).mono hz1)) ?_
        clear hHeld hK
        intro hHeld
        have hbm := bytes_made w1 [lowB (n.acl.length : Int)] #[.int .u8 ((lowB (n.acl.length : Int)).toNat : Int)] rfl
        have hpn := ho1.apart
        have hpl : w1.heap.size < (w1.alloc (.cells #[.int .u8 ((lowB (n.acl.length : Int)).toNat : Int)] 5)).heap.size := by rw [World.size_alloc]; exact Nat.lt_succ_self _
        have hb2 := (alloc_below w1 (.cells #[.int .u8 ((lowB (n.acl.length : Int)).toNat : Int)] 5)).mono hz1
        have ho2 := ho1.below (alloc_below w1 (.cells #[.int .u8 ((lowB (n.acl.length : Int)).toNat : Int)] 5))
        have hS2 := NBox.keep hS1 hb2
        have hz2 := Nat.le_trans hz1 hb2.size
        have hP2 := hP1.trans hb2
        generalize hw2 : w1.alloc (.cells #[.int .u8 ((lowB (n.acl.length : Int)).toNat : Int)] 5) = w2 at *
        generalize hp : w1.heap.size = p at *
        rw [show ([lowB (n.acl.length : Int)] : List UInt8).length = 1 from rfl] at hbm
        clear hw2 hp
        (try simp only [Act.put, List.setIfInBounds_toArray, List.set_cons_zero, List.set_cons_succ])
        refine wpAnyH_ready (rs := [6]) (by kernel_rfl) (by simp) ?_
        refine AllReadyH.cons (by simp only [List.getElem?_toArray, List.getElem?_cons_zero, List.getElem?_cons_succ]; rfl) (fun K hK => ?_) AllReadyH.nil
        go_simp
        go_at_call 38
        refine (rlab_any (w.heap.size + 1) _ ((encT n.path ++ [dirB n.dir]) ++ encL n.label) n.by_ (by (try simp [encT_len, encL_len, encW_len]) <;> omega) _ ho2 hz2).mono ?_
        rintro e w3 ⟨v2, rfl, ho3, hg3⟩
        have hb3 := hg3.ownB ho2 hz2
        have hS3 := NBox.keep hS2 hb3
        have hz3 := Nat.le_trans hz2 hb3.size
        have hP3 := hP2.trans hb3
        replace hbm := hbm.grew hg3 hpl hpn
        replace hpn := hg3.apart hpl hpn
        replace hpl := Nat.lt_of_lt_of_le hpl hg3.by_.size
        refine hK.out _ _ (hS3) ?_
        clear hHeld hK
        intro hHeld
        obtain ⟨vz, wz, hap, hoz, hgz⟩ := append_at w3 (w.heap.size + 1) _ (((encT n.path ++ [dirB n.dir]) ++ encL n.label) ++ encL n.by_) ⟨p, 0, none⟩ 1 1 [lowB (n.acl.length : Int)] hbm ho3 hz3 (by (try simp [encT_len, encL_len, encW_len]) <;> omega) (by omega)
        have hbz := hgz.ownB ho3 hz3
        have hSz := NBox.keep hS3 hbz
        have hzz := Nat.le_trans hz3 hbz.size
        have hB := hP3.trans hbz
        (try simp only [Act.put, List.setIfInBounds_toArray, List.set_cons_zero, List.set_cons_succ])
        refine wpAnyH_ready (rs := [12]) (by kernel_rfl) (by simp) ?_
        refine AllReadyH.cons (by simp only [List.getElem?_toArray, List.getElem?_cons_zero, List.getElem?_cons_succ]; rfl) (fun K hK => ?_) AllReadyH.nil
        refine step_append_u8 rfl _ _ rfl rfl rfl rfl hap ?_
        (try simp only [Act.put, List.setIfInBounds_toArray, List.set_cons_zero, List.set_cons_succ])
        refine hK.out _ _ (hSz) ?_
        clear hHeld hK
        intro hHeld
        (try simp only [Act.put, List.setIfInBounds_toArray, List.set_cons_zero, List.set_cons_succ])
        refine wpAnyH_take (i := 13) (v := ?_) (by simp only [List.getElem?_toArray, List.getElem?_cons_zero, List.getElem?_cons_succ]; rfl) (by kernel_rfl) (by kernel_rfl) (by kernel_rfl) (by exact fun _ _ _ h => h) (Or.inl ⟨by rfl, ?_⟩) (by assumption) ?_; rotate_left; (focus (intro w hSw; (try dsimp only at hSw); go_simp; try with_reducible rfl)); (try simp only [Act.put, List.setIfInBounds_toArray, List.set_cons_zero, List.set_cons_succ])
        refine wpAnyH_done (by kernel_rfl) ?_ _
        go_wp2_with fail
        go_meet
        exact ⟨_, rfl, hSz, hzz, by simpa using hoz, hB0.trans (hB.mono (Nat.le_succ _))⟩
      refine AllReadyH.cons (by simp only [List.getElem?_toArray, List.getElem?_cons_zero, List.getElem?_cons_succ]; rfl) (fun K hK => ?_) AllReadyH.nil
      go_simp
      refine hK.out _ _ (NBox.keep hS0 ((alloc_below _ _).mono hz0)) ?_
      clear hHeld hK
      intro hHeld
      have hbm := bytes_made w0 [lowB (n.acl.length : Int)] #[.int .u8 ((lowB (n.acl.length : Int)).toNat : Int)] rfl
      have hpn := ho0.apart
      have hpl : w0.heap.size < (w0.alloc (.cells #[.int .u8 ((lowB (n.acl.length : Int)).toNat : Int)] 5)).heap.size := by rw [World.size_alloc]; exact Nat.lt_succ_self _
      have hb1 := (alloc_below w0 (.cells #[.int .u8 ((lowB (n.acl.length : Int)).toNat : Int)] 5)).mono hz0
      have ho1 := ho0.below (alloc_below w0 (.cells #[.int .u8 ((lowB (n.acl.length : Int)).toNat : Int)] 5))
      have hS1 := NBox.keep hS0 hb1
      have hz1 := Nat.le_trans hz0 hb1.size
      have hP1 := hb1
      generalize hw1 : w0.alloc (.cells #[.int .u8 ((lowB (n.acl.length : Int)).toNat : Int)] 5) = w1 at *
      generalize hp : w0.heap.size = p at *
      rw [show ([lowB (n.acl.length : Int)] : List UInt8).length = 1 from rfl] at hbm
      clear hw1 hp
      (try simp only [Act.put, List.setIfInBounds_toArray, List.set_cons_zero, List.set_cons_succ])
      refine wpAnyH_ready (rs := [3]) (by kernel_rfl) (by simp) ?_
      refine AllReadyH.cons (by simp only [List.getElem?_toArray, List.getElem?_cons_zero, List.getElem?_cons_succ]; rfl) (fun K hK => ?_) AllReadyH.nil
      go_simp
      go_at_call 38
      refine (rlab_any (w.heap.size + 1) _ (encT n.path ++ [dirB n.dir]) n.label (by (try simp [encT_len, encL_len, encW_len]) <;> omega) _ ho1 hz1).mono ?_
      rintro e w2 ⟨v1, rfl, ho2, hg2⟩
      have hb2 := hg2.ownB ho1 hz1
      have hS2 := NBox.keep hS1 hb2
      have hz2 := Nat.le_trans hz1 hb2.size
      have hP2 := hP1.trans hb2
      replace hbm := hbm.grew hg2 hpl hpn
      replace hpn := hg2.apart hpl hpn
      replace hpl := Nat.lt_of_lt_of_le hpl hg2.by_.size
      refine hK.out _ _ (hS2) ?_
      clear hHeld hK
      intro hHeld
      (try simp only [Act.put, List.setIfInBounds_toArray, List.set_cons_zero, List.set_cons_succ])
      refine wpAnyH_ready (rs := [6]) (by kernel_rfl) (by simp) ?_
      refine AllReadyH.cons (by simp only [List.getElem?_toArray, List.getElem?_cons_zero, List.getElem?_cons_succ]; rfl) (fun K hK => ?_) AllReadyH.nil
      go_simp
      go_at_call 38
      refine (rlab_any (w.heap.size + 1) _ ((encT n.path ++ [dirB n.dir]) ++ encL n.label) n.by_ (by (try simp [encT_len, encL_len, encW_len]) <;> omega) _ ho2 hz2).mono ?_
      rintro e w3 ⟨v2, rfl, ho3, hg3⟩
      have hb3 := hg3.ownB ho2 hz2
      have hS3 := NBox.keep hS2 hb3
      have hz3 := Nat.le_trans hz2 hb3.size
      have hP3 := hP2.trans hb3
      replace hbm := hbm.grew hg3 hpl hpn
      replace hpn := hg3.apart hpl hpn
      replace hpl := Nat.lt_of_lt_of_le hpl hg3.by_.size
      refine hK.out _ _ (hS3) ?_
      clear hHeld hK
      intro hHeld
      obtain ⟨vz, wz, hap, hoz, hgz⟩ := append_at w3 (w.heap.size + 1) _ (((encT n.path ++ [dirB n.dir]) ++ encL n.label) ++ encL n.by_) ⟨p, 0, none⟩ 1 1 [lowB (n.acl.length : Int)] hbm ho3 hz3 (by (try simp [encT_len, encL_len, encW_len]) <;> omega) (by omega)
      have hbz := hgz.ownB ho3 hz3
      have hSz := NBox.keep hS3 hbz
      have hzz := Nat.le_trans hz3 hbz.size
      have hB := hP3.trans hbz
      (try simp only [Act.put, List.setIfInBounds_toArray, List.set_cons_zero, List.set_cons_succ])
      refine wpAnyH_ready (rs := [12]) (by kernel_rfl) (by simp) ?_
      refine AllReadyH.cons (by simp only [List.getElem?_toArray, List.getElem?_cons_zero, List.getElem?_cons_succ]; rfl) (fun K hK => ?_) AllReadyH.nil
      refine step_append_u8 rfl _ _ rfl rfl rfl rfl hap ?_
      (try simp only [Act.put, List.setIfInBounds_toArray, List.set_cons_zero, List.set_cons_succ])
      refine hK.out _ _ (hSz) ?_
      clear hHeld hK
      intro hHeld
      (try simp only [Act.put, List.setIfInBounds_toArray, List.set_cons_zero, List.set_cons_succ])
      refine wpAnyH_take (i := 13) (v := ?_) (by simp only [List.getElem?_toArray, List.getElem?_cons_zero, List.getElem?_cons_succ]; rfl) (by kernel_rfl) (by kernel_rfl) (by kernel_rfl) (by exact fun _ _ _ h => h) (Or.inl ⟨by rfl, ?_⟩) (by assumption) ?_; rotate_left; (focus (intro w hSw; (try dsimp only at hSw); go_simp; try with_reducible rfl)); (try simp only [Act.put, List.setIfInBounds_toArray, List.set_cons_zero, List.set_cons_succ])
      refine wpAnyH_done (by kernel_rfl) ?_ _
      go_wp2_with fail
      go_meet
      exact ⟨_, rfl, hSz, hzz, by simpa using hoz, hB0.trans (hB.mono (Nat.le_succ _))⟩
    case rest =>
      clear hS2 hB2 hz2 ho2
      obtain ⟨v, rfl, hS, hz, ho, hB⟩ := hcut
      have hML : (encT n.path ++ [dirB n.dir] ++ encL n.label ++ encL n.by_ ++ [lowB (n.acl.length : Int)]).length < 110000 := by simp [encT_len, encL_len]; omega
      go_wp2_with fail
      go_loopw [3, 4] (fun t3 t4 wr => ∃ i : Nat, i ≤ n.acl.length ∧ t4 = .int .i64 (i : Int) ∧ NBox wr w.heap.size n aa ca wa cw ∧ w.heap.size + 1 ≤ wr.heap.size ∧ OwnB wr (w.heap.size + 1) t3 (encT n.path ++ [dirB n.dir] ++ encL n.label ++ encL n.by_ ++ [lowB (n.acl.length : Int)] ++ (n.acl.take i).flatMap encG) ∧ Below w.heap.size w wr) (fun _ t4 _ => n.acl.length - (Go.RowKit.intOf t4).toNat)
      case atStart => exact ⟨0, by omega, rfl, hS, hz, by simpa using ho, hB⟩
      case round =>
        clear hS hz ho hB
        obtain ⟨i, hi, rfl, hS, hz, ho, hB⟩ := hrel
        have hFL : ((n.acl.take i).flatMap encG).length ≤ (n.acl.take i).length * 1001 := flat_len encG 1001 _ fun q hq => by
          have := hu q (List.mem_of_mem_take hq)
          simp [encG, encT_len]
          omega
        rw [List.length_take] at hFL
        have hLL : (encT n.path ++ [dirB n.dir] ++ encL n.label ++ encL n.by_ ++ [lowB (n.acl.length : Int)] ++ (n.acl.take i).flatMap encG).length < 500000 := by rw [List.length_append]; omega
        obtain ⟨L, hLe⟩ : ∃ L, L = encT n.path ++ [dirB n.dir] ++ encL n.label ++ encL n.by_ ++ [lowB (n.acl.length : Int)] ++ (n.acl.take i).flatMap encG := ⟨_, rfl⟩
        rw [← hLe] at ho hLL
        by_cases hlt : i < n.acl.length
        · obtain ⟨q, hq⟩ : ∃ q, n.acl[i]? = some q := ⟨_, List.getElem?_eq_getElem hlt⟩
          have hqu := hu q (List.mem_of_getElem? hq)
          obtain ⟨y, rfl, hc1, hc2⟩ := hG.below hB i q hq
          have hyb : (y.add (i * 2)).block < w.heap.size + 1 := by
            obtain ⟨y', hy', hc', _⟩ := hG i q hq
            obtain rfl := Option.some.inj hy'
            exact Nat.lt_succ_of_lt (World.block_lt_of_cell? _ _ hc')
          have hnx := flat_take encG n.acl hq
          have wm := wrap_u8 q.m
          clear hFL hG hW hu
          go_wp2_with fail
          have hS0 : (fun W => NBox W w.heap.size n (some y) ca wa cw ∧ W.cell? (y.add (i * 2)) = some (.string q.u) ∧ W.cell? ⟨(y.add (i * 2)).block, (y.add (i * 2)).off + 1, none⟩ = some (.int .i64 q.m)) wr.drew := ⟨hS, hc1, hc2⟩
          have hB0 : Below w.heap.size w wr.drew := hB.drew
          have hz0 : w.heap.size + 1 ≤ wr.drew.heap.size := hz
          have ho0 := ho.below (Below.refl _ wr).drew
          clear hS hB hz ho hc1 hc2
          refine wp_region_held_drew (S := (fun W => NBox W w.heap.size n (some y) ca wa cw ∧ W.cell? (y.add (i * 2)) = some (.string q.u) ∧ W.cell? ⟨(y.add (i * 2)).block, (y.add (i * 2)).off + 1, none⟩ = some (.int .i64 q.m))) (by kernel_rfl) (by exact hS0) ?_
          intro hHeld
          generalize wr.drew = w0 at *
          refine wpAnyH_take (i := 0) (v := ?_) (by simp only [List.getElem?_toArray, List.getElem?_cons_zero, List.getElem?_cons_succ]; rfl) (by kernel_rfl) (by kernel_rfl) (by kernel_rfl) (by exact fun _ _ _ h => h) (Or.inl ⟨by rfl, ?_⟩) (by assumption) ?_; rotate_left; (focus (intro w hSw; (try dsimp only at hSw); go_simp; try with_reducible rfl)); (try simp only [Act.put, List.setIfInBounds_toArray, List.set_cons_zero, List.set_cons_succ])
          refine wpAnyH_take (i := 1) (v := ?_) (by simp only [List.getElem?_toArray, List.getElem?_cons_zero, List.getElem?_cons_succ]; rfl) (by kernel_rfl) (by kernel_rfl) (by kernel_rfl) (by exact fun _ _ _ h => h) (Or.inl ⟨by rfl, ?_⟩) (by assumption) ?_; rotate_left; (focus (intro w hSw; (try dsimp only at hSw); go_simp; try with_reducible rfl)); (try simp only [Act.put, List.setIfInBounds_toArray, List.set_cons_zero, List.set_cons_succ])
          refine wpAnyH_take (i := 2) (v := ?_) (by simp only [List.getElem?_toArray, List.getElem?_cons_zero, List.getElem?_cons_succ]; rfl) (by kernel_rfl) (by kernel_rfl) (by kernel_rfl) (by exact fun _ _ _ h => h) (Or.inl ⟨by rfl, ?_⟩) (by assumption) ?_; rotate_left; (focus (intro w hSw; (try dsimp only at hSw); go_simp; try with_reducible rfl)); (try simp only [Act.put, List.setIfInBounds_toArray, List.set_cons_zero, List.set_cons_succ])
          refine wpAnyH_take (i := 3) (v := ?_) (by simp only [List.getElem?_toArray, List.getElem?_cons_zero, List.getElem?_cons_succ]; rfl) (by kernel_rfl) (by kernel_rfl) (by kernel_rfl) (by exact fun _ _ _ h => h) (Or.inl ⟨by rfl, ?_⟩) (by assumption) ?_; rotate_left; (focus (intro w hSw; (try dsimp only at hSw); go_simp; try with_reducible rfl)); (try simp only [Act.put, List.setIfInBounds_toArray, List.set_cons_zero, List.set_cons_succ])
          refine wpAnyH_take (i := 4) (v := ?_) (by simp only [List.getElem?_toArray, List.getElem?_cons_zero, List.getElem?_cons_succ]; rfl) (by kernel_rfl) (by kernel_rfl) (by kernel_rfl) (by exact fun _ _ _ h => h) (Or.inl ⟨by rfl, ?_⟩) (by assumption) ?_; rotate_left; (focus (intro w hSw; (try dsimp only at hSw); go_simp; try with_reducible rfl)); (try simp only [Act.put, List.setIfInBounds_toArray, List.set_cons_zero, List.set_cons_succ])
          refine wpAnyH_take (i := 5) (v := ?_) (by simp only [List.getElem?_toArray, List.getElem?_cons_zero, List.getElem?_cons_succ]; rfl) (by kernel_rfl) (by kernel_rfl) (by kernel_rfl) (by exact fun _ _ _ h => h) (Or.inl ⟨by rfl, ?_⟩) (by assumption) ?_; rotate_left; (focus (intro w hSw; (try dsimp only at hSw); go_simp; try with_reducible rfl)); (try simp only [Act.put, List.setIfInBounds_toArray, List.set_cons_zero, List.set_cons_succ])
          refine wpAnyH_take (i := 6) (v := ?_) (by simp only [List.getElem?_toArray, List.getElem?_cons_zero, List.getElem?_cons_succ]; rfl) (by kernel_rfl) (by kernel_rfl) (by kernel_rfl) (by exact fun _ _ _ h => h) (Or.inl ⟨by rfl, ?_⟩) (by assumption) ?_; rotate_left; (focus (intro w hSw; (try dsimp only at hSw); go_simp; try with_reducible rfl)); (try simp only [Act.put, List.setIfInBounds_toArray, List.set_cons_zero, List.set_cons_succ])
          refine wpAnyH_take (i := 8) (v := ?_) (by simp only [List.getElem?_toArray, List.getElem?_cons_zero, List.getElem?_cons_succ]; rfl) (by kernel_rfl) (by kernel_rfl) (by kernel_rfl) (by exact fun _ _ _ h => h) (Or.inl ⟨by rfl, ?_⟩) (by assumption) ?_; rotate_left; (focus (intro w hSw; (try dsimp only at hSw); go_simp; try with_reducible rfl)); (try simp only [Act.put, List.setIfInBounds_toArray, List.set_cons_zero, List.set_cons_succ])
          refine wpAnyH_take (i := 9) (v := ?_) (by simp only [List.getElem?_toArray, List.getElem?_cons_zero, List.getElem?_cons_succ]; rfl) (by kernel_rfl) (by kernel_rfl) (by kernel_rfl) (by exact fun _ _ _ h => h) (Or.inl ⟨by rfl, ?_⟩) (by assumption) ?_; rotate_left; (focus (intro w hSw; (try dsimp only at hSw); go_simp; try with_reducible rfl)); (try simp only [Act.put, List.setIfInBounds_toArray, List.set_cons_zero, List.set_cons_succ])
          refine wpAnyH_take (i := 10) (v := ?_) (by simp only [List.getElem?_toArray, List.getElem?_cons_zero, List.getElem?_cons_succ]; rfl) (by kernel_rfl) (by kernel_rfl) (by kernel_rfl) (by exact fun _ _ _ h => h) (Or.inl ⟨by rfl, ?_⟩) (by assumption) ?_; rotate_left; (focus (intro w hSw; (try dsimp only at hSw); go_simp; try with_reducible rfl)); (try simp only [Act.put, List.setIfInBounds_toArray, List.set_cons_zero, List.set_cons_succ])
          refine wpAnyH_take (i := 11) (v := ?_) (by simp only [List.getElem?_toArray, List.getElem?_cons_zero, List.getElem?_cons_succ]; rfl) (by kernel_rfl) (by kernel_rfl) (by kernel_rfl) (by exact fun _ _ _ h => h) (Or.inl ⟨by rfl, ?_⟩) (by assumption) ?_; rotate_left; (focus (intro w hSw; (try dsimp only at hSw); go_simp; try with_reducible rfl)); (try simp only [Act.put, List.setIfInBounds_toArray, List.set_cons_zero, List.set_cons_succ])
          refine wpAnyH_take (i := 12) (v := ?_) (by simp only [List.getElem?_toArray, List.getElem?_cons_zero, List.getElem?_cons_succ]; rfl) (by kernel_rfl) (by kernel_rfl) (by kernel_rfl) (by exact fun _ _ _ h => h) (Or.inl ⟨by rfl, ?_⟩) (by assumption) ?_; rotate_left; (focus (intro w hSw; (try dsimp only at hSw); go_simp; try with_reducible rfl)); (try simp only [Act.put, List.setIfInBounds_toArray, List.set_cons_zero, List.set_cons_succ])
          refine wpAnyH_take (i := 13) (v := ?_) (by simp only [List.getElem?_toArray, List.getElem?_cons_zero, List.getElem?_cons_succ]; rfl) (by kernel_rfl) (by kernel_rfl) (by kernel_rfl) (by exact fun _ _ _ h => h) (Or.inl ⟨by rfl, ?_⟩) (by assumption) ?_; rotate_left; (focus (intro w hSw; (try dsimp only at hSw); go_simp; try with_reducible rfl)); (try simp only [Act.put, List.setIfInBounds_toArray, List.set_cons_zero, List.set_cons_succ])
          refine wpAnyH_take (i := 14) (v := ?_) (by simp only [List.getElem?_toArray, List.getElem?_cons_zero, List.getElem?_cons_succ]; rfl) (by kernel_rfl) (by kernel_rfl) (by kernel_rfl) (by exact fun _ _ _ h => h) (Or.inl ⟨by rfl, ?_⟩) (by assumption) ?_; rotate_left; (focus (intro w hSw; (try dsimp only at hSw); go_simp; try with_reducible rfl)); (try simp only [Act.put, List.setIfInBounds_toArray, List.set_cons_zero, List.set_cons_succ])
          refine wpAnyH_ready (rs := [7, 15]) (by kernel_rfl) (by simp) ?_
          refine AllReadyH.cons (by simp only [List.getElem?_toArray, List.getElem?_cons_zero, List.getElem?_cons_succ]; rfl) (fun K hK => ?_) ?_
          · go_simp
            go_at_call 37
            refine (rtext_any (w.heap.size + 1) _ L q.u (by omega) (by (try simp [encT_len, encL_len, encW_len]) <;> omega) _ ho0 hz0).mono ?_
            rintro e w1 ⟨v1, rfl, ho1, hg1⟩
            have hb1 := hg1.ownB ho0 hz0
            have hS1 := (keepG hyb) hS0 hb1
            have hz1 := Nat.le_trans hz0 hb1.size
            have hP1 := hb1
            refine hK.out _ _ (hS1) ?_
            clear hHeld hK
            intro hHeld
            (try simp only [Act.put, List.setIfInBounds_toArray, List.set_cons_zero, List.set_cons_succ])
            refine wpAnyH_ready (rs := [15]) (by kernel_rfl) (by simp) ?_
            refine AllReadyH.cons (by simp only [List.getElem?_toArray, List.getElem?_cons_zero, List.getElem?_cons_succ]; rfl) (fun K hK => ?_) AllReadyH.nil
            go_simp
            refine hK.out _ _ ((keepG hyb) hS1 ((alloc_below _ _).mono hz1)) ?_
            clear hHeld hK
            intro hHeld
            have hbm := bytes_made w1 [lowB q.m] #[.int .u8 ((lowB q.m).toNat : Int)] rfl
            have hpn := ho1.apart
            have hpl : w1.heap.size < (w1.alloc (.cells #[.int .u8 ((lowB q.m).toNat : Int)] 5)).heap.size := by rw [World.size_alloc]; exact Nat.lt_succ_self _
            have hb2 := (alloc_below w1 (.cells #[.int .u8 ((lowB q.m).toNat : Int)] 5)).mono hz1
            have ho2 := ho1.below (alloc_below w1 (.cells #[.int .u8 ((lowB q.m).toNat : Int)] 5))
            have hS2 := (keepG hyb) hS1 hb2
            have hz2 := Nat.le_trans hz1 hb2.size
            have hP2 := hP1.trans hb2
            generalize hw2 : w1.alloc (.cells #[.int .u8 ((lowB q.m).toNat : Int)] 5) = w2 at *
            generalize hp : w1.heap.size = p at *
            rw [show ([lowB q.m] : List UInt8).length = 1 from rfl] at hbm
            clear hw2 hp
            obtain ⟨vz, wz, hap, hoz, hgz⟩ := append_at w2 (w.heap.size + 1) _ (L ++ encT q.u) ⟨p, 0, none⟩ 1 1 [lowB q.m] hbm ho2 hz2 (by (try simp [encT_len, encL_len, encW_len]) <;> omega) (by omega)
            have hbz := hgz.ownB ho2 hz2
            have hSz := (keepG hyb) hS2 hbz
            have hzz := Nat.le_trans hz2 hbz.size
            have hB := hP2.trans hbz
            (try simp only [Act.put, List.setIfInBounds_toArray, List.set_cons_zero, List.set_cons_succ])
            refine wpAnyH_ready (rs := [16]) (by kernel_rfl) (by simp) ?_
            refine AllReadyH.cons (by simp only [List.getElem?_toArray, List.getElem?_cons_zero, List.getElem?_cons_succ]; rfl) (fun K hK => ?_) AllReadyH.nil
            refine step_append_u8 rfl _ _ rfl rfl rfl rfl hap ?_
            (try simp only [Act.put, List.setIfInBounds_toArray, List.set_cons_zero, List.set_cons_succ])
            refine hK.out _ _ (hSz) ?_
            clear hHeld hK
            intro hHeld
            (try simp only [Act.put, List.setIfInBounds_toArray, List.set_cons_zero, List.set_cons_succ])
            refine wpAnyH_take (i := 17) (v := ?_) (by simp only [List.getElem?_toArray, List.getElem?_cons_zero, List.getElem?_cons_succ]; rfl) (by kernel_rfl) (by kernel_rfl) (by kernel_rfl) (by exact fun _ _ _ h => h) (Or.inl ⟨by rfl, ?_⟩) (by assumption) ?_; rotate_left; (focus (intro w hSw; (try dsimp only at hSw); go_simp; try with_reducible rfl)); (try simp only [Act.put, List.setIfInBounds_toArray, List.set_cons_zero, List.set_cons_succ])
            refine wpAnyH_done (by kernel_rfl) ?_ _
            go_wp2_with fail
            refine ⟨⟨i + 1, by omega, by simp, hSz.1, hzz, ?_, hB0.trans (hB.mono (Nat.le_succ _))⟩, by simp [Go.RowKit.intOf]; omega⟩
            rw [hnx]
            subst hLe
            simpa [encG] using hoz
          refine AllReadyH.cons (by simp only [List.getElem?_toArray, List.getElem?_cons_zero, List.getElem?_cons_succ]; rfl) (fun K hK => ?_) AllReadyH.nil
          go_simp
          refine hK.out _ _ ((keepG hyb) hS0 ((alloc_below _ _).mono hz0)) ?_
          clear hHeld hK
          intro hHeld
          have hbm := bytes_made w0 [lowB q.m] #[.int .u8 ((lowB q.m).toNat : Int)] rfl
          have hpn := ho0.apart
          have hpl : w0.heap.size < (w0.alloc (.cells #[.int .u8 ((lowB q.m).toNat : Int)] 5)).heap.size := by rw [World.size_alloc]; exact Nat.lt_succ_self _
          have hb1 := (alloc_below w0 (.cells #[.int .u8 ((lowB q.m).toNat : Int)] 5)).mono hz0
          have ho1 := ho0.below (alloc_below w0 (.cells #[.int .u8 ((lowB q.m).toNat : Int)] 5))
          have hS1 := (keepG hyb) hS0 hb1
          have hz1 := Nat.le_trans hz0 hb1.size
          have hP1 := hb1
          generalize hw1 : w0.alloc (.cells #[.int .u8 ((lowB q.m).toNat : Int)] 5) = w1 at *
          generalize hp : w0.heap.size = p at *
          rw [show ([lowB q.m] : List UInt8).length = 1 from rfl] at hbm
          clear hw1 hp
          (try simp only [Act.put, List.setIfInBounds_toArray, List.set_cons_zero, List.set_cons_succ])
          refine wpAnyH_ready (rs := [7]) (by kernel_rfl) (by simp) ?_
          refine AllReadyH.cons (by simp only [List.getElem?_toArray, List.getElem?_cons_zero, List.getElem?_cons_succ]; rfl) (fun K hK => ?_) AllReadyH.nil
          go_simp
          go_at_call 37
          refine (rtext_any (w.heap.size + 1) _ L q.u (by omega) (by (try simp [encT_len, encL_len, encW_len]) <;> omega) _ ho1 hz1).mono ?_
          rintro e w2 ⟨v1, rfl, ho2, hg2⟩
          have hb2 := hg2.ownB ho1 hz1
          have hS2 := (keepG hyb) hS1 hb2
          have hz2 := Nat.le_trans hz1 hb2.size
          have hP2 := hP1.trans hb2
          replace hbm := hbm.grew hg2 hpl hpn
          replace hpn := hg2.apart hpl hpn
          replace hpl := Nat.lt_of_lt_of_le hpl hg2.by_.size
          refine hK.out _ _ (hS2) ?_
          clear hHeld hK
          intro hHeld
          obtain ⟨vz, wz, hap, hoz, hgz⟩ := append_at w2 (w.heap.size + 1) _ (L ++ encT q.u) ⟨p, 0, none⟩ 1 1 [lowB q.m] hbm ho2 hz2 (by (try simp [encT_len, encL_len, encW_len]) <;> omega) (by omega)
          have hbz := hgz.ownB ho2 hz2
          have hSz := (keepG hyb) hS2 hbz
          have hzz := Nat.le_trans hz2 hbz.size
          have hB := hP2.trans hbz
          (try simp only [Act.put, List.setIfInBounds_toArray, List.set_cons_zero, List.set_cons_succ])
          refine wpAnyH_ready (rs := [16]) (by kernel_rfl) (by simp) ?_
          refine AllReadyH.cons (by simp only [List.getElem?_toArray, List.getElem?_cons_zero, List.getElem?_cons_succ]; rfl) (fun K hK => ?_) AllReadyH.nil
          refine step_append_u8 rfl _ _ rfl rfl rfl rfl hap ?_
          (try simp only [Act.put, List.setIfInBounds_toArray, List.set_cons_zero, List.set_cons_succ])
          refine hK.out _ _ (hSz) ?_
          clear hHeld hK
          intro hHeld
          (try simp only [Act.put, List.setIfInBounds_toArray, List.set_cons_zero, List.set_cons_succ])
          refine wpAnyH_take (i := 17) (v := ?_) (by simp only [List.getElem?_toArray, List.getElem?_cons_zero, List.getElem?_cons_succ]; rfl) (by kernel_rfl) (by kernel_rfl) (by kernel_rfl) (by exact fun _ _ _ h => h) (Or.inl ⟨by rfl, ?_⟩) (by assumption) ?_; rotate_left; (focus (intro w hSw; (try dsimp only at hSw); go_simp; try with_reducible rfl)); (try simp only [Act.put, List.setIfInBounds_toArray, List.set_cons_zero, List.set_cons_succ])
          refine wpAnyH_done (by kernel_rfl) ?_ _
          go_wp2_with fail
          refine ⟨⟨i + 1, by omega, by simp, hSz.1, hzz, ?_, hB0.trans (hB.mono (Nat.le_succ _))⟩, by simp [Go.RowKit.intOf]; omega⟩
          rw [hnx]
          subst hLe
          simpa [encG] using hoz
        · obtain rfl : i = n.acl.length := by omega
          have hLe2 : L = encT n.path ++ [dirB n.dir] ++ encL n.label ++ encL n.by_ ++ [lowB (n.acl.length : Int)] ++ n.acl.flatMap encG := by rw [hLe, List.take_length]
          clear hLe
          obtain ⟨v4, W4, hap4, ho4, hg4⟩ := append_made wr (w.heap.size + 1) u3 L [lowB n.r1, lowB n.r2, lowB n.r3, lowB n.gates, lowB (n.words.length : Int)] #[.int .u8 ((lowB n.r1).toNat : Int), .int .u8 ((lowB n.r2).toNat : Int), .int .u8 ((lowB n.r3).toNat : Int), .int .u8 ((lowB n.gates).toNat : Int), .int .u8 ((lowB (n.words.length : Int)).toNat : Int)] rfl ho hz (by omega) (by simp)
          have hb4 := hg4.ownB ho hz
          have hS4 := hS.keep hb4
          have hB4 := hB.trans (hb4.mono (Nat.le_succ _))
          have hz4 := Nat.le_trans hz hb4.size
          rw [show ([lowB n.r1, lowB n.r2, lowB n.r3, lowB n.gates, lowB (n.words.length : Int)] : List UInt8).length = 5 from rfl] at hap4
          obtain ⟨M, hMe⟩ : ∃ M, M = L ++ [lowB n.r1, lowB n.r2, lowB n.r3, lowB n.gates, lowB (n.words.length : Int)] := ⟨_, rfl⟩
          have hMM : M.length < 500005 := by rw [hMe, List.length_append]; simp; omega
          rw [← hMe] at ho4
          have hMe2 : encN n = M ++ n.words.flatMap encW := by rw [hMe, hLe2]; rfl
          clear hMe hLe2 hg4 hb4 hFL
          go_wp2_with (first | (refine wpList_append_u8 rfl _ _ rfl rfl rfl rfl hap4 ?_) | fail)
          clear hS hz ho hB hap4
          go_loopw [3, 5] (fun t3 t5 wr => ∃ i : Nat, i ≤ n.words.length ∧ t5 = .int .i64 (i : Int) ∧ NBox wr w.heap.size n aa ca wa cw ∧ w.heap.size + 1 ≤ wr.heap.size ∧ OwnB wr (w.heap.size + 1) t3 (M ++ (n.words.take i).flatMap encW) ∧ Below w.heap.size w wr) (fun _ t5 _ => n.words.length - (Go.RowKit.intOf t5).toNat)
          case atStart => exact ⟨0, by omega, rfl, hS4, hz4, by simpa using ho4, hB4⟩
          case round =>
            clear hS4 hz4 ho4 hB4
            obtain ⟨k, hk, rfl, hS, hz, ho, hB⟩ := hrel
            have hFL : ((n.words.take k).flatMap encW).length ≤ (n.words.take k).length * 8 := flat_len encW 8 _ fun q hq => by rw [encW_len]; exact Nat.le_refl _
            rw [List.length_take] at hFL
            have hLL : (M ++ (n.words.take k).flatMap encW).length < 600000 := by rw [List.length_append]; omega
            by_cases hlt : k < n.words.length
            · obtain ⟨q, hq⟩ : ∃ q, n.words[k]? = some q := ⟨_, List.getElem?_eq_getElem hlt⟩
              obtain ⟨y, rfl, hc1⟩ := hW.below hB k q hq
              have hnx := flat_take encW n.words hq
              go_wp2_with fail
              refine (rnum_any (w.heap.size + 1) _ _ q (by omega) _ ho hz).mono ?_
              rintro r W5 ⟨v5, rfl, ho5, hg5⟩
              have hb5 := hg5.ownB ho hz
              have hS5 := hS.keep hb5
              rw [List.append_assoc, ← hnx] at ho5
              go_wp2_with fail
              exact ⟨⟨k + 1, by omega, by simp, hS5, Nat.le_trans hz hb5.size, ho5, hB.trans (hb5.mono (Nat.le_succ _))⟩, by simp [Go.RowKit.intOf]; omega⟩
            · obtain rfl : k = n.words.length := by omega
              rw [List.take_length, ← hMe2] at ho
              go_wp2_with fail
              go_ret
              exact ⟨_, rfl, ho.lower (Nat.le_succ _), hB⟩)
end Go.Proofs.Ytecleampjeebaaa
