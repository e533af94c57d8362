/-
  PART 3 of what the claims of this seat lean on: TreePut TreeFirstRef MonBase Opens LabOpen NodeOpenD TreeOpen TreeUnder TreeGrowT MonLaw MonMoreWalk Door.
-/
import Derived.Laws.AppendOwnNone
import Derived.Deep.RegionHeld
import Derived.Test.YtapgjdmnlkedgabDoorRows
import Derived.ProofKit
import Derived.OpenShut
import Derived.ChangeSame
import Derived.ChangeSlices
import Derived.SizedLaws
import Derived.Deep.Slices
import Derived.Deep.Strs
import Derived.Deep.CutBlock
import Derived.LaidMore
import Derived.Shelf.Vars
import Derived.HandedShaped
import Derived.PinnedBridge
import Derived.Lay
import Derived.Test.YtapgjdmnlkedgabDoorPt1
import Derived.Test.YtapgjdmnlkedgabDoorPt2
/-! NODES PUT, AND TOLD BY DIRECTORIES: the document's own Put and Under (donjonref11). -/
namespace Go.Proofs.YtapgjdmnlkedgabDoor
open Go.RowKit
set_option maxRecDepth 8000
set_option linter.unusedSimpArgs false
set_option linter.unusedVariables false

section
variable {α : Type} {e t : TypeId} {sz : Nat} {f : α → List Value}
/-- append of elements that lie anywhere, or of none. -/
theorem OwnR.append_any {w : World} {base : Nat} {v : Value} {l : List α} (hE : ElemOk e t sz f) (h : OwnR e sz f w base v l) (hb : base ≤ w.heap.size) (a : Option Addr) (m c : Nat) (l2 : List α) (hm : l2.length = m) (h2 : RowAt sz f w a l2) (hn : a = none → c = 0 ∧ m = 0) (hl : l.length < 900000) (hl2 : m < 900000) :
    ∃ v' w', (Builtin.append_ #[t, t] t #[v, .slice a m c]).run Tryd.prog w = .ok v' w' ∧ OwnR e sz f w' base v' (l ++ l2) ∧ Grew w v w' v' := by
  cases a with
  | some y => exact h.append hE hb y m c l2 hm h2 hl hl2
  | none =>
    obtain ⟨rfl, hm0⟩ := hn rfl
    subst hm0
    obtain rfl : l2 = [] := List.eq_nil_of_length_eq_zero hm
    obtain ⟨i, z, b, hi, _⟩ := hE.info
    have ho : w.ownsRow base e sz v l.length (l.flatMap f) := h
    refine ⟨v, w, run_append_owned_none (P := Tryd.prog) (w := w) base t t e i sz hE.und hi v l.length _ ho, by rw [List.append_nil]; exact h, Grew.refl _ _⟩
/-- The first k of a row, and the others. -/
theorem rows_take (hE : ElemOk e t sz f) (ht : Tryd.prog.elem t = e) (a : Option Addr) (n cap k : Nat) (hk : k ≤ n) (hnc : n ≤ cap) :
    ∃ A : Option Addr, (∀ W, (Instr.slice t (.slice a n cap) none (some (.int .i64 (k : Int))) none).run Tryd.prog W = .ok (.slice A k cap) W) ∧ (A = none → a = none) ∧ ∀ W l, RowAt sz f W a l → RowAt sz f W A (l.take k) := by
  obtain ⟨i, z, b, hi, hz, hs, _⟩ := hE.info
  refine ⟨if cap = 0 then a else a.map (·.add 0), fun W => ?_, fun h => ?_, fun W l h j x hx => ?_⟩
  · rw [run_slice_h (P := Tryd.prog) W t a n cap (by rw [ht]; exact hE.und) .i64 (k : Int) (by omega) (by omega), ht]
    simp [sizeOf, typeInfo, hi, hs, sliced]
  · split at h
    · exact h
    · simpa using h
  · have hj : l[j]? = some x := by
      rw [List.getElem?_take] at hx
      split at hx
      · exact hx
      · cases hx
    obtain ⟨y, rfl, hc⟩ := h j x hj
    refine ⟨y, ?_, hc⟩
    split
    · rfl
    · rfl
theorem rows_drop (hE : ElemOk e t sz f) (ht : Tryd.prog.elem t = e) (a : Option Addr) (n cap k : Nat) (hk : k ≤ n) (hnc : n ≤ cap) :
    ∃ A : Option Addr, (∀ W, (Instr.slice t (.slice a n cap) (some (.int .i64 (k : Int))) none none).run Tryd.prog W = .ok (.slice A (n - k) (cap - k)) W) ∧ (A = none → a = none) ∧ ∀ W l, l.length = n → RowAt sz f W a l → RowAt sz f W A (l.drop k) := by
  obtain ⟨i, z, b, hi, hz, hs, _⟩ := hE.info
  refine ⟨if cap = k then a else a.map (·.add (k * sz)), fun W => ?_, fun h => ?_, fun W l hl h j x hx => ?_⟩
  · rw [run_slice_l (P := Tryd.prog) W t a n cap (by rw [ht]; exact hE.und) .i64 (k : Int) (by omega) (by omega), ht]
    simp [sizeOf, typeInfo, hi, hs, sliced]
  · split at h
    · exact h
    · simpa using h
  · rw [List.getElem?_drop] at hx
    have hkj := (List.getElem?_eq_some_iff.1 hx).1
    obtain ⟨y, rfl, hc⟩ := h (k + j) x hx
    rw [if_neg (by omega)]
    refine ⟨_, rfl, fun q hq => ?_⟩
    rw [Addr.add_add, ← Nat.add_assoc, ← Nat.add_mul]
    exact hc q hq
end
theorem tw_take {α : Type} {f : α → Bool} : ∀ (l : List α) (k : Nat), (∀ x ∈ l.take k, f x = true) → (∀ x, l[k]? = some x → f x = false) → l.takeWhile f = l.take k ∧ l.dropWhile f = l.drop k
  | [], k, _, _ => by simp
  | a :: r, 0, _, h => by
    have := h a rfl
    simp [List.takeWhile_cons, List.dropWhile_cons, this]
  | a :: r, k + 1, h1, h2 => by
    have ha := h1 a (by simp)
    obtain ⟨h3, h4⟩ := tw_take r k (fun x hx => h1 x (by simp [hx])) (fun x hx => h2 x (by simpa using hx))
    rw [List.takeWhile_cons, List.dropWhile_cons, ha]
    simp only [if_true, List.take_succ_cons, List.drop_succ_cons]
    rw [h3, h4]
    exact ⟨rfl, rfl⟩
/-- What Put does behind its loop. -/
theorem put_tail (W : World) (a1 : Option Addr) (n c1 k : Nat) (m : List PN) (x : PN) (hn : m.length = n) (hk : k ≤ n) (hle : n ≤ c1) (hno : a1 = none → c1 = 0) (hn1 : n ≤ 100000) (hr : RowAt 16 PN.cs W a1 m) :
    ∃ A1 A2 v2 W2 v3 W3 v4 W4, (∀ X, (Instr.slice 25 (.slice a1 n c1) none (some (.int .i64 (k : Int))) none).run Tryd.prog X = .ok (.slice A1 k c1) X) ∧ (∀ X, (Instr.slice 25 (.slice a1 n c1) (some (.int .i64 (k : Int))) none none).run Tryd.prog X = .ok (.slice A2 (n - k) (c1 - k)) X) ∧
      (Builtin.append_ #[25, 25] 25 #[.slice none 0 0, .slice A1 k c1]).run Tryd.prog W = .ok v2 W2 ∧ (Builtin.append_ #[25, 25] 25 #[v2, .slice (some ⟨W2.heap.size, 0, none⟩) 1 1]).run Tryd.prog (W2.alloc (.cells x.cs.toArray 34)) = .ok v3 W3 ∧
      (Builtin.append_ #[25, 25] 25 #[v3, .slice A2 (n - k) (c1 - k)]).run Tryd.prog W3 = .ok v4 W4 ∧ Below W.heap.size W W2 ∧ OwnN W4 W.heap.size v4 (m.take k ++ x :: m.drop k) ∧ Below W.heap.size W W4 := by
  obtain ⟨A1, hs1, hn1', hr1'⟩ := rows_take pn_ok (by kernel_rfl) a1 n c1 k hk hle
  obtain ⟨A2, hs2, hn2', hr2'⟩ := rows_drop pn_ok (by kernel_rfl) a1 n c1 k hk hle
  have hlt3 : (m.take k).length = k := by rw [List.length_take, hn]; omega
  have hlt4 : (m.drop k).length = n - k := by rw [List.length_drop, hn]
  have ho0 : OwnN W W.heap.size (.slice none 0 0) [] := OwnR.nil _ _ _ _ _
  obtain ⟨v2, W2, hap2, ho2, hg2⟩ := OwnR.append_any pn_ok ho0 (Nat.le_refl _) A1 k c1 (m.take k) hlt3 (hr1' _ _ hr) (fun q => by have := hno (hn1' q); omega) (by simp) (by omega)
  rw [List.nil_append] at ho2
  have hb2 := ho0.grew_below (Nat.le_refl _) hg2
  obtain ⟨v3, W3, hap3, ho3, hg3⟩ := OwnR.push pn_ok ho2 hb2.size x x.cs.toArray rfl 34 (by rw [hlt3]; omega)
  have hb3 := ho2.grew_below hb2.size hg3
  have hB3 := hb2.trans hb3
  obtain ⟨v4, W4, hap4, ho4, hg4⟩ := OwnR.append_any pn_ok ho3 hB3.size A2 (n - k) (c1 - k) (m.drop k) hlt4 (hr2' _ _ hn (hr.below pn_len hB3)) (fun q => by have := hno (hn2' q); omega) (by simp [hlt3]; omega) (by omega)
  have hb4 := ho3.grew_below hB3.size hg4
  refine ⟨A1, A2, v2, W2, v3, W3, v4, W4, hs1, hs2, hap2, hap3, hap4, hb2, ?_, hB3.trans hb4⟩
  simpa using ho4
set_option maxRecDepth 8000 in
set_option maxHeartbeats 4000000 in
theorem rputT_any (a : Option Addr) (cap : Nat) (l : List PN) (x : PN) (hl : l.length ≤ 100000) (w : World) (h : RowN w a l) :
    Calls Tryd.prog 13 #[.slice a l.length cap, .agg x.cs.toArray] w fun e w' => ∃ v, e = .returned v ∧ OwnN w' w.heap.size v (putP l x) ∧ Below w.heap.size w w' := by
  have hund := Tryd.underlying34
  have hsz : (Tryd.prog.info? 34).map (·.size) = some 16 := by kernel_rfl
  have hb0 := blk_alloc w x.cs.toArray 34
  have hB0 := alloc_below w (.cells x.cs.toArray 34)
  have hs0 := World.size_alloc w (.cells x.cs.toArray 34)
  have kd := fun W (q : RowN W a l) => rdropT_any a cap l x.n.path hl W q
  unfold putP
  have hdl : (dropP l x.n.path).length ≤ 100000 := Nat.le_trans (List.length_filter_le _ _) hl
  generalize dropP l x.n.path = m at *
  have hcs : x.cs = [.string x.n.path, .bool x.n.dir, .int .i64 x.n.label.s, .int .i64 x.n.label.c, .int .i64 x.n.label.i, .int .i64 x.n.label.k, .slice x.aa x.n.acl.length x.ca, .int .i64 x.n.r1, .int .i64 x.n.r2, .int .i64 x.n.r3, .int .i64 x.n.gates, .slice x.wa x.n.words.length x.cw, .int .i64 x.n.by_.s, .int .i64 x.n.by_.c, .int .i64 x.n.by_.i, .int .i64 x.n.by_.k] := rfl
  rw [hcs] at hb0 hB0 hs0 ⊢
  go_enter Tryd.func13, Tryd.ntmps13
  go_wp2_with fail
  have hrow := h.below hB0
  generalize w.alloc (.cells #[.string x.n.path, .bool x.n.dir, .int .i64 x.n.label.s, .int .i64 x.n.label.c, .int .i64 x.n.label.i, .int .i64 x.n.label.k, .slice x.aa x.n.acl.length x.ca, .int .i64 x.n.r1, .int .i64 x.n.r2, .int .i64 x.n.r3, .int .i64 x.n.gates, .slice x.wa x.n.words.length x.cw, .int .i64 x.n.by_.s, .int .i64 x.n.by_.c, .int .i64 x.n.by_.i, .int .i64 x.n.by_.k] 34) = W at *
  refine (kd W hrow).mono ?_
  rintro e W1 ⟨v1, rfl, ho1, hB1⟩
  obtain ⟨a1, c1, rfl, hle1, hno1, hr1⟩ := OwnR.slice pn_len ho1
  have hb1 := hb0.same (hB1.block _ (by omega))
  rw [← hcs] at hb1
  have hlt1 : w.heap.size < W1.heap.size := by have := hB1.size; omega
  have hB2 := Below.then hB0 hB1
  clear hb0 kd hrow h hB0 hB1
  obtain ⟨n, hn⟩ : ∃ n, m.length = n := ⟨_, rfl⟩
  rw [hn] at hle1 ⊢
  replace hn : Aside (m.length = n) := hn
  have hn1 : n ≤ 100000 := by rw [← hn.out]; exact hdl
  go_wp2_with fail
  go_loopw [5] (fun t5 wr => ∃ k : Nat, k ≤ n ∧ t5 = .int .i64 (k : Int) ∧ (∀ y ∈ m.take k, lt y.n.path x.n.path = true) ∧ Below W1.heap.size W1 wr) (fun t5 _ => n - (Go.RowKit.intOf t5).toNat)
  case atStart => exact ⟨0, by omega, rfl, fun y hy => by simp at hy, Below.refl _ _⟩
  case round =>
    obtain ⟨k, hk, rfl, hall, hB⟩ := hrel
    have hbk := hb1.same (hB.block _ hlt1)
    have q0 : wr.cell? ⟨w.heap.size, 0, none⟩ = some (.string x.n.path) := (hbk 0 _ rfl).1
    have hrk := hr1.below pn_len hB
    by_cases hlt : k < n
    · obtain ⟨z, hz⟩ : ∃ z, m[k]? = some z := ⟨_, List.getElem?_eq_getElem (by rw [hn.out]; exact hlt)⟩
      obtain ⟨y, rfl, -⟩ := hrk k z hz
      have hc := (hrk.at pn_len hz) 0 _ rfl
      have hc' : wr.cell? (y.add (k * 16)) = some (.string z.n.path) := hc
      have hi1 : (k : Int) < (n : Int) := by omega
      have hS0 : (fun W : World => W.cell? (y.add (k * 16)) = some (.string z.n.path) ∧ W.cell? ⟨w.heap.size, 0, none⟩ = some (.string x.n.path)) wr.drew := ⟨hc', q0⟩
      have hBd := hB.drew
      cases hlt2 : lt z.n.path x.n.path
      · have f0 : Op.bytesLess z.n.path.toList x.n.path.toList = false := by exact hlt2
        have hbkd : Blk wr.drew w.heap.size x.cs := hbk
        have hrkd : RowAt 16 PN.cs wr.drew (some y) m := hrk
        go_wp2_with fail
        refine wp_region_held_drew (S := (fun W : World => W.cell? (y.add (k * 16)) = some (.string z.n.path) ∧ W.cell? ⟨w.heap.size, 0, none⟩ = some (.string x.n.path))) (by kernel_rfl) (by exact hS0) ?_
        intro hHeld
        (first | (refine wpAnyH_take (i := 0) (v := ?_) (by simp only [gA, gB, gC]; rfl) (by kernel_rfl) (by kernel_rfl) (by kernel_rfl) (by exact fun _ _ _ h => h) (Or.inl ⟨by rfl, ?_⟩) (by assumption) ?_; rotate_left; (focus (intro w hSw; (try dsimp only at hSw); go_simp; try with_reducible rfl))) | (refine wpAnyH_take (i := 0) (v := undef) (by simp only [gA, gB, gC]; rfl) (by kernel_rfl) (by kernel_rfl) (by kernel_rfl) (by exact fun _ _ _ h => h) (Or.inr ⟨by rfl, rfl⟩) (by assumption) ?_) | fail); simp only [Act.put, sA, sB, sC, f0]
        (first | (refine wpAnyH_take (i := 1) (v := ?_) (by simp only [gA, gB, gC]; rfl) (by kernel_rfl) (by kernel_rfl) (by kernel_rfl) (by exact fun _ _ _ h => h) (Or.inl ⟨by rfl, ?_⟩) (by assumption) ?_; rotate_left; (focus (intro w hSw; (try dsimp only at hSw); go_simp; try with_reducible rfl))) | (refine wpAnyH_take (i := 1) (v := undef) (by simp only [gA, gB, gC]; rfl) (by kernel_rfl) (by kernel_rfl) (by kernel_rfl) (by exact fun _ _ _ h => h) (Or.inr ⟨by rfl, rfl⟩) (by assumption) ?_) | fail); simp only [Act.put, sA, sB, sC, f0]
        (first | (refine wpAnyH_take (i := 2) (v := ?_) (by simp only [gA, gB, gC]; rfl) (by kernel_rfl) (by kernel_rfl) (by kernel_rfl) (by exact fun _ _ _ h => h) (Or.inl ⟨by rfl, ?_⟩) (by assumption) ?_; rotate_left; (focus (intro w hSw; (try dsimp only at hSw); go_simp; try with_reducible rfl))) | (refine wpAnyH_take (i := 2) (v := undef) (by simp only [gA, gB, gC]; rfl) (by kernel_rfl) (by kernel_rfl) (by kernel_rfl) (by exact fun _ _ _ h => h) (Or.inr ⟨by rfl, rfl⟩) (by assumption) ?_) | fail); simp only [Act.put, sA, sB, sC, f0]
        (first | (refine wpAnyH_take (i := 3) (v := ?_) (by simp only [gA, gB, gC]; rfl) (by kernel_rfl) (by kernel_rfl) (by kernel_rfl) (by exact fun _ _ _ h => h) (Or.inl ⟨by rfl, ?_⟩) (by assumption) ?_; rotate_left; (focus (intro w hSw; (try dsimp only at hSw); go_simp; try with_reducible rfl))) | (refine wpAnyH_take (i := 3) (v := undef) (by simp only [gA, gB, gC]; rfl) (by kernel_rfl) (by kernel_rfl) (by kernel_rfl) (by exact fun _ _ _ h => h) (Or.inr ⟨by rfl, rfl⟩) (by assumption) ?_) | fail); simp only [Act.put, sA, sB, sC, f0]
        (first | (refine wpAnyH_take (i := 4) (v := ?_) (by simp only [gA, gB, gC]; rfl) (by kernel_rfl) (by kernel_rfl) (by kernel_rfl) (by exact fun _ _ _ h => h) (Or.inl ⟨by rfl, ?_⟩) (by assumption) ?_; rotate_left; (focus (intro w hSw; (try dsimp only at hSw); go_simp; try with_reducible rfl))) | (refine wpAnyH_take (i := 4) (v := undef) (by simp only [gA, gB, gC]; rfl) (by kernel_rfl) (by kernel_rfl) (by kernel_rfl) (by exact fun _ _ _ h => h) (Or.inr ⟨by rfl, rfl⟩) (by assumption) ?_) | fail); simp only [Act.put, sA, sB, sC, f0]
        (first | (refine wpAnyH_take (i := 5) (v := ?_) (by simp only [gA, gB, gC]; rfl) (by kernel_rfl) (by kernel_rfl) (by kernel_rfl) (by exact fun _ _ _ h => h) (Or.inl ⟨by rfl, ?_⟩) (by assumption) ?_; rotate_left; (focus (intro w hSw; (try dsimp only at hSw); go_simp; try with_reducible rfl))) | (refine wpAnyH_take (i := 5) (v := undef) (by simp only [gA, gB, gC]; rfl) (by kernel_rfl) (by kernel_rfl) (by kernel_rfl) (by exact fun _ _ _ h => h) (Or.inr ⟨by rfl, rfl⟩) (by assumption) ?_) | fail); simp only [Act.put, sA, sB, sC, f0]
        (first | (refine wpAnyH_take (i := 6) (v := ?_) (by simp only [gA, gB, gC]; rfl) (by kernel_rfl) (by kernel_rfl) (by kernel_rfl) (by exact fun _ _ _ h => h) (Or.inl ⟨by rfl, ?_⟩) (by assumption) ?_; rotate_left; (focus (intro w hSw; (try dsimp only at hSw); go_simp; try with_reducible rfl))) | (refine wpAnyH_take (i := 6) (v := undef) (by simp only [gA, gB, gC]; rfl) (by kernel_rfl) (by kernel_rfl) (by kernel_rfl) (by exact fun _ _ _ h => h) (Or.inr ⟨by rfl, rfl⟩) (by assumption) ?_) | fail); simp only [Act.put, sA, sB, sC, f0]
        (first | (refine wpAnyH_take (i := 7) (v := ?_) (by simp only [gA, gB, gC]; rfl) (by kernel_rfl) (by kernel_rfl) (by kernel_rfl) (by exact fun _ _ _ h => h) (Or.inl ⟨by rfl, ?_⟩) (by assumption) ?_; rotate_left; (focus (intro w hSw; (try dsimp only at hSw); go_simp; try with_reducible rfl))) | (refine wpAnyH_take (i := 7) (v := undef) (by simp only [gA, gB, gC]; rfl) (by kernel_rfl) (by kernel_rfl) (by kernel_rfl) (by exact fun _ _ _ h => h) (Or.inr ⟨by rfl, rfl⟩) (by assumption) ?_) | fail); simp only [Act.put, sA, sB, sC, f0]
        (first | (refine wpAnyH_take (i := 8) (v := ?_) (by simp only [gA, gB, gC]; rfl) (by kernel_rfl) (by kernel_rfl) (by kernel_rfl) (by exact fun _ _ _ h => h) (Or.inl ⟨by rfl, ?_⟩) (by assumption) ?_; rotate_left; (focus (intro w hSw; (try dsimp only at hSw); go_simp; try with_reducible rfl))) | (refine wpAnyH_take (i := 8) (v := undef) (by simp only [gA, gB, gC]; rfl) (by kernel_rfl) (by kernel_rfl) (by kernel_rfl) (by exact fun _ _ _ h => h) (Or.inr ⟨by rfl, rfl⟩) (by assumption) ?_) | fail); simp only [Act.put, sA, sB, sC, f0]
        (first | (refine wpAnyH_take (i := 9) (v := ?_) (by simp only [gA, gB, gC]; rfl) (by kernel_rfl) (by kernel_rfl) (by kernel_rfl) (by exact fun _ _ _ h => h) (Or.inl ⟨by rfl, ?_⟩) (by assumption) ?_; rotate_left; (focus (intro w hSw; (try dsimp only at hSw); go_simp; try with_reducible rfl))) | (refine wpAnyH_take (i := 9) (v := undef) (by simp only [gA, gB, gC]; rfl) (by kernel_rfl) (by kernel_rfl) (by kernel_rfl) (by exact fun _ _ _ h => h) (Or.inr ⟨by rfl, rfl⟩) (by assumption) ?_) | fail); simp only [Act.put, sA, sB, sC, f0]
        (first | (refine wpAnyH_take (i := 10) (v := ?_) (by simp only [gA, gB, gC]; rfl) (by kernel_rfl) (by kernel_rfl) (by kernel_rfl) (by exact fun _ _ _ h => h) (Or.inl ⟨by rfl, ?_⟩) (by assumption) ?_; rotate_left; (focus (intro w hSw; (try dsimp only at hSw); go_simp; try with_reducible rfl))) | (refine wpAnyH_take (i := 10) (v := undef) (by simp only [gA, gB, gC]; rfl) (by kernel_rfl) (by kernel_rfl) (by kernel_rfl) (by exact fun _ _ _ h => h) (Or.inr ⟨by rfl, rfl⟩) (by assumption) ?_) | fail); simp only [Act.put, sA, sB, sC, f0]
        (first | (refine wpAnyH_take (i := 11) (v := ?_) (by simp only [gA, gB, gC]; rfl) (by kernel_rfl) (by kernel_rfl) (by kernel_rfl) (by exact fun _ _ _ h => h) (Or.inl ⟨by rfl, ?_⟩) (by assumption) ?_; rotate_left; (focus (intro w hSw; (try dsimp only at hSw); go_simp; try with_reducible rfl))) | (refine wpAnyH_take (i := 11) (v := undef) (by simp only [gA, gB, gC]; rfl) (by kernel_rfl) (by kernel_rfl) (by kernel_rfl) (by exact fun _ _ _ h => h) (Or.inr ⟨by rfl, rfl⟩) (by assumption) ?_) | fail); simp only [Act.put, sA, sB, sC, f0]
        (first | (refine wpAnyH_take (i := 12) (v := ?_) (by simp only [gA, gB, gC]; rfl) (by kernel_rfl) (by kernel_rfl) (by kernel_rfl) (by exact fun _ _ _ h => h) (Or.inl ⟨by rfl, ?_⟩) (by assumption) ?_; rotate_left; (focus (intro w hSw; (try dsimp only at hSw); go_simp; try with_reducible rfl))) | (refine wpAnyH_take (i := 12) (v := undef) (by simp only [gA, gB, gC]; rfl) (by kernel_rfl) (by kernel_rfl) (by kernel_rfl) (by exact fun _ _ _ h => h) (Or.inr ⟨by rfl, rfl⟩) (by assumption) ?_) | fail); simp only [Act.put, sA, sB, sC, f0]
        (first | (refine wpAnyH_take (i := 13) (v := ?_) (by simp only [gA, gB, gC]; rfl) (by kernel_rfl) (by kernel_rfl) (by kernel_rfl) (by exact fun _ _ _ h => h) (Or.inl ⟨by rfl, ?_⟩) (by assumption) ?_; rotate_left; (focus (intro w hSw; (try dsimp only at hSw); go_simp; try with_reducible rfl))) | (refine wpAnyH_take (i := 13) (v := undef) (by simp only [gA, gB, gC]; rfl) (by kernel_rfl) (by kernel_rfl) (by kernel_rfl) (by exact fun _ _ _ h => h) (Or.inr ⟨by rfl, rfl⟩) (by assumption) ?_) | fail); simp only [Act.put, sA, sB, sC, f0]
        refine wpAnyH_done (by kernel_rfl) ?_ _
        clear hc hc' q0 hrk hbk
        obtain ⟨A1, A2, v2, W2, v3, W3, v4, W4, hs1, hs2, hap2, hap3, hap4, hb2, ho4, hb4⟩ := put_tail wr.drew (some y) n c1 k m x hn.out hk hle1 hno1 hn1 hrkd
        have hbz : Blk W2 w.heap.size x.cs := hbkd.same (hb2.block _ (Nat.lt_of_lt_of_le hlt1 hBd.size))
        have hrg := hbz.range
        obtain ⟨ht1, ht2⟩ := tw_take m k hall (fun q hq => by rw [hz] at hq; obtain rfl := Option.some.inj hq; exact hlt2)
        rw [← ht1, ← ht2] at ho4
        replace ho4 := ho4.lower (Nat.le_trans (Nat.le_of_lt hlt1) hBd.size)
        have hBz := (hB2.trans (hBd.mono (Nat.le_of_lt hlt1))).trans (hb4.mono (Nat.le_trans (Nat.le_of_lt hlt1) hBd.size))
        obtain ⟨cs, hcx⟩ : ∃ cs, x.cs = cs := ⟨_, rfl⟩
        have hlen : cs.length = 16 := by rw [← hcx]; rfl
        rw [hcx] at hrg hap3
        rw [← hlen] at hsz
        clear hcx hcs hbz hb1 ht1 ht2 hb4 hb2
        go_wp2_with (first | (refine wpList_load_row rfl _ rfl w.heap.size rfl cs hrg hund rfl hsz ?_) | (refine wpList_build1 pn_ok (by decide) rfl _ rfl cs rfl hlen ?_) | (refine wpList_append rfl _ _ rfl rfl rfl rfl hap2 ?_) | (refine wpList_append rfl _ _ rfl rfl rfl rfl hap3 ?_) | (refine wpList_append rfl _ _ rfl rfl rfl rfl hap4 ?_) | fail)
        go_ret
        exact ⟨_, rfl, ho4, hBz⟩
      · have f0 : Op.bytesLess z.n.path.toList x.n.path.toList = true := by exact hlt2
        clear hc hc' q0 hrk hbk
        go_wp2_with fail
        refine wp_region_held_drew (S := (fun W : World => W.cell? (y.add (k * 16)) = some (.string z.n.path) ∧ W.cell? ⟨w.heap.size, 0, none⟩ = some (.string x.n.path))) (by kernel_rfl) (by exact hS0) ?_
        intro hHeld
        (first | (refine wpAnyH_take (i := 0) (v := ?_) (by simp only [gA, gB, gC]; rfl) (by kernel_rfl) (by kernel_rfl) (by kernel_rfl) (by exact fun _ _ _ h => h) (Or.inl ⟨by rfl, ?_⟩) (by assumption) ?_; rotate_left; (focus (intro w hSw; (try dsimp only at hSw); go_simp; try with_reducible rfl))) | (refine wpAnyH_take (i := 0) (v := undef) (by simp only [gA, gB, gC]; rfl) (by kernel_rfl) (by kernel_rfl) (by kernel_rfl) (by exact fun _ _ _ h => h) (Or.inr ⟨by rfl, rfl⟩) (by assumption) ?_) | fail); simp only [Act.put, sA, sB, sC, f0]
        (first | (refine wpAnyH_take (i := 1) (v := ?_) (by simp only [gA, gB, gC]; rfl) (by kernel_rfl) (by kernel_rfl) (by kernel_rfl) (by exact fun _ _ _ h => h) (Or.inl ⟨by rfl, ?_⟩) (by assumption) ?_; rotate_left; (focus (intro w hSw; (try dsimp only at hSw); go_simp; try with_reducible rfl))) | (refine wpAnyH_take (i := 1) (v := undef) (by simp only [gA, gB, gC]; rfl) (by kernel_rfl) (by kernel_rfl) (by kernel_rfl) (by exact fun _ _ _ h => h) (Or.inr ⟨by rfl, rfl⟩) (by assumption) ?_) | fail); simp only [Act.put, sA, sB, sC, f0]
        (first | (refine wpAnyH_take (i := 2) (v := ?_) (by simp only [gA, gB, gC]; rfl) (by kernel_rfl) (by kernel_rfl) (by kernel_rfl) (by exact fun _ _ _ h => h) (Or.inl ⟨by rfl, ?_⟩) (by assumption) ?_; rotate_left; (focus (intro w hSw; (try dsimp only at hSw); go_simp; try with_reducible rfl))) | (refine wpAnyH_take (i := 2) (v := undef) (by simp only [gA, gB, gC]; rfl) (by kernel_rfl) (by kernel_rfl) (by kernel_rfl) (by exact fun _ _ _ h => h) (Or.inr ⟨by rfl, rfl⟩) (by assumption) ?_) | fail); simp only [Act.put, sA, sB, sC, f0]
        (first | (refine wpAnyH_take (i := 3) (v := ?_) (by simp only [gA, gB, gC]; rfl) (by kernel_rfl) (by kernel_rfl) (by kernel_rfl) (by exact fun _ _ _ h => h) (Or.inl ⟨by rfl, ?_⟩) (by assumption) ?_; rotate_left; (focus (intro w hSw; (try dsimp only at hSw); go_simp; try with_reducible rfl))) | (refine wpAnyH_take (i := 3) (v := undef) (by simp only [gA, gB, gC]; rfl) (by kernel_rfl) (by kernel_rfl) (by kernel_rfl) (by exact fun _ _ _ h => h) (Or.inr ⟨by rfl, rfl⟩) (by assumption) ?_) | fail); simp only [Act.put, sA, sB, sC, f0]
        (first | (refine wpAnyH_take (i := 4) (v := ?_) (by simp only [gA, gB, gC]; rfl) (by kernel_rfl) (by kernel_rfl) (by kernel_rfl) (by exact fun _ _ _ h => h) (Or.inl ⟨by rfl, ?_⟩) (by assumption) ?_; rotate_left; (focus (intro w hSw; (try dsimp only at hSw); go_simp; try with_reducible rfl))) | (refine wpAnyH_take (i := 4) (v := undef) (by simp only [gA, gB, gC]; rfl) (by kernel_rfl) (by kernel_rfl) (by kernel_rfl) (by exact fun _ _ _ h => h) (Or.inr ⟨by rfl, rfl⟩) (by assumption) ?_) | fail); simp only [Act.put, sA, sB, sC, f0]
        (first | (refine wpAnyH_take (i := 5) (v := ?_) (by simp only [gA, gB, gC]; rfl) (by kernel_rfl) (by kernel_rfl) (by kernel_rfl) (by exact fun _ _ _ h => h) (Or.inl ⟨by rfl, ?_⟩) (by assumption) ?_; rotate_left; (focus (intro w hSw; (try dsimp only at hSw); go_simp; try with_reducible rfl))) | (refine wpAnyH_take (i := 5) (v := undef) (by simp only [gA, gB, gC]; rfl) (by kernel_rfl) (by kernel_rfl) (by kernel_rfl) (by exact fun _ _ _ h => h) (Or.inr ⟨by rfl, rfl⟩) (by assumption) ?_) | fail); simp only [Act.put, sA, sB, sC, f0]
        (first | (refine wpAnyH_take (i := 6) (v := ?_) (by simp only [gA, gB, gC]; rfl) (by kernel_rfl) (by kernel_rfl) (by kernel_rfl) (by exact fun _ _ _ h => h) (Or.inl ⟨by rfl, ?_⟩) (by assumption) ?_; rotate_left; (focus (intro w hSw; (try dsimp only at hSw); go_simp; try with_reducible rfl))) | (refine wpAnyH_take (i := 6) (v := undef) (by simp only [gA, gB, gC]; rfl) (by kernel_rfl) (by kernel_rfl) (by kernel_rfl) (by exact fun _ _ _ h => h) (Or.inr ⟨by rfl, rfl⟩) (by assumption) ?_) | fail); simp only [Act.put, sA, sB, sC, f0]
        (first | (refine wpAnyH_take (i := 7) (v := ?_) (by simp only [gA, gB, gC]; rfl) (by kernel_rfl) (by kernel_rfl) (by kernel_rfl) (by exact fun _ _ _ h => h) (Or.inl ⟨by rfl, ?_⟩) (by assumption) ?_; rotate_left; (focus (intro w hSw; (try dsimp only at hSw); go_simp; try with_reducible rfl))) | (refine wpAnyH_take (i := 7) (v := undef) (by simp only [gA, gB, gC]; rfl) (by kernel_rfl) (by kernel_rfl) (by kernel_rfl) (by exact fun _ _ _ h => h) (Or.inr ⟨by rfl, rfl⟩) (by assumption) ?_) | fail); simp only [Act.put, sA, sB, sC, f0]
        (first | (refine wpAnyH_take (i := 8) (v := ?_) (by simp only [gA, gB, gC]; rfl) (by kernel_rfl) (by kernel_rfl) (by kernel_rfl) (by exact fun _ _ _ h => h) (Or.inl ⟨by rfl, ?_⟩) (by assumption) ?_; rotate_left; (focus (intro w hSw; (try dsimp only at hSw); go_simp; try with_reducible rfl))) | (refine wpAnyH_take (i := 8) (v := undef) (by simp only [gA, gB, gC]; rfl) (by kernel_rfl) (by kernel_rfl) (by kernel_rfl) (by exact fun _ _ _ h => h) (Or.inr ⟨by rfl, rfl⟩) (by assumption) ?_) | fail); simp only [Act.put, sA, sB, sC, f0]
        (first | (refine wpAnyH_take (i := 9) (v := ?_) (by simp only [gA, gB, gC]; rfl) (by kernel_rfl) (by kernel_rfl) (by kernel_rfl) (by exact fun _ _ _ h => h) (Or.inl ⟨by rfl, ?_⟩) (by assumption) ?_; rotate_left; (focus (intro w hSw; (try dsimp only at hSw); go_simp; try with_reducible rfl))) | (refine wpAnyH_take (i := 9) (v := undef) (by simp only [gA, gB, gC]; rfl) (by kernel_rfl) (by kernel_rfl) (by kernel_rfl) (by exact fun _ _ _ h => h) (Or.inr ⟨by rfl, rfl⟩) (by assumption) ?_) | fail); simp only [Act.put, sA, sB, sC, f0]
        (first | (refine wpAnyH_take (i := 10) (v := ?_) (by simp only [gA, gB, gC]; rfl) (by kernel_rfl) (by kernel_rfl) (by kernel_rfl) (by exact fun _ _ _ h => h) (Or.inl ⟨by rfl, ?_⟩) (by assumption) ?_; rotate_left; (focus (intro w hSw; (try dsimp only at hSw); go_simp; try with_reducible rfl))) | (refine wpAnyH_take (i := 10) (v := undef) (by simp only [gA, gB, gC]; rfl) (by kernel_rfl) (by kernel_rfl) (by kernel_rfl) (by exact fun _ _ _ h => h) (Or.inr ⟨by rfl, rfl⟩) (by assumption) ?_) | fail); simp only [Act.put, sA, sB, sC, f0]
        (first | (refine wpAnyH_take (i := 11) (v := ?_) (by simp only [gA, gB, gC]; rfl) (by kernel_rfl) (by kernel_rfl) (by kernel_rfl) (by exact fun _ _ _ h => h) (Or.inl ⟨by rfl, ?_⟩) (by assumption) ?_; rotate_left; (focus (intro w hSw; (try dsimp only at hSw); go_simp; try with_reducible rfl))) | (refine wpAnyH_take (i := 11) (v := undef) (by simp only [gA, gB, gC]; rfl) (by kernel_rfl) (by kernel_rfl) (by kernel_rfl) (by exact fun _ _ _ h => h) (Or.inr ⟨by rfl, rfl⟩) (by assumption) ?_) | fail); simp only [Act.put, sA, sB, sC, f0]
        (first | (refine wpAnyH_take (i := 12) (v := ?_) (by simp only [gA, gB, gC]; rfl) (by kernel_rfl) (by kernel_rfl) (by kernel_rfl) (by exact fun _ _ _ h => h) (Or.inl ⟨by rfl, ?_⟩) (by assumption) ?_; rotate_left; (focus (intro w hSw; (try dsimp only at hSw); go_simp; try with_reducible rfl))) | (refine wpAnyH_take (i := 12) (v := undef) (by simp only [gA, gB, gC]; rfl) (by kernel_rfl) (by kernel_rfl) (by kernel_rfl) (by exact fun _ _ _ h => h) (Or.inr ⟨by rfl, rfl⟩) (by assumption) ?_) | fail); simp only [Act.put, sA, sB, sC, f0]
        (first | (refine wpAnyH_take (i := 13) (v := ?_) (by simp only [gA, gB, gC]; rfl) (by kernel_rfl) (by kernel_rfl) (by kernel_rfl) (by exact fun _ _ _ h => h) (Or.inl ⟨by rfl, ?_⟩) (by assumption) ?_; rotate_left; (focus (intro w hSw; (try dsimp only at hSw); go_simp; try with_reducible rfl))) | (refine wpAnyH_take (i := 13) (v := undef) (by simp only [gA, gB, gC]; rfl) (by kernel_rfl) (by kernel_rfl) (by kernel_rfl) (by exact fun _ _ _ h => h) (Or.inr ⟨by rfl, rfl⟩) (by assumption) ?_) | fail); simp only [Act.put, sA, sB, sC, f0]
        refine wpAnyH_done (by kernel_rfl) ?_ _
        go_wp2_with fail
        refine ⟨⟨k + 1, by omega, by simp, fun q hq => ?_, hBd⟩, by simp [Go.RowKit.intOf]; omega⟩
        rw [List.take_add_one, hz, List.mem_append] at hq
        rcases hq with hq | hq
        · exact hall q hq
        · simp at hq
          rw [hq]
          exact hlt2
    · have hi1 : ¬ (k : Int) < (n : Int) := by omega
      have hbkd : Blk wr.drew w.heap.size x.cs := hbk
      have hrkd : RowAt 16 PN.cs wr.drew a1 m := hrk
      have hBd := hB.drew
      have hS0 : (fun W : World => W.cell? ⟨w.heap.size, 0, none⟩ = some (.string x.n.path)) wr.drew := q0
      go_wp2_with fail
      refine wp_region_held_drew (S := (fun W : World => W.cell? ⟨w.heap.size, 0, none⟩ = some (.string x.n.path))) (by kernel_rfl) (by exact hS0) ?_
      intro hHeld
      (first | (refine wpAnyH_take (i := 0) (v := ?_) (by simp only [gA, gB, gC]; rfl) (by kernel_rfl) (by kernel_rfl) (by kernel_rfl) (by exact fun _ _ _ h => h) (Or.inl ⟨by rfl, ?_⟩) (by assumption) ?_; rotate_left; (focus (intro w hSw; (try dsimp only at hSw); go_simp; try with_reducible rfl))) | (refine wpAnyH_take (i := 0) (v := undef) (by simp only [gA, gB, gC]; rfl) (by kernel_rfl) (by kernel_rfl) (by kernel_rfl) (by exact fun _ _ _ h => h) (Or.inr ⟨by rfl, rfl⟩) (by assumption) ?_) | fail); simp only [Act.put, sA, sB, sC]
      (first | (refine wpAnyH_take (i := 1) (v := ?_) (by simp only [gA, gB, gC]; rfl) (by kernel_rfl) (by kernel_rfl) (by kernel_rfl) (by exact fun _ _ _ h => h) (Or.inl ⟨by rfl, ?_⟩) (by assumption) ?_; rotate_left; (focus (intro w hSw; (try dsimp only at hSw); go_simp; try with_reducible rfl))) | (refine wpAnyH_take (i := 1) (v := undef) (by simp only [gA, gB, gC]; rfl) (by kernel_rfl) (by kernel_rfl) (by kernel_rfl) (by exact fun _ _ _ h => h) (Or.inr ⟨by rfl, rfl⟩) (by assumption) ?_) | fail); simp only [Act.put, sA, sB, sC]
      (first | (refine wpAnyH_take (i := 2) (v := ?_) (by simp only [gA, gB, gC]; rfl) (by kernel_rfl) (by kernel_rfl) (by kernel_rfl) (by exact fun _ _ _ h => h) (Or.inl ⟨by rfl, ?_⟩) (by assumption) ?_; rotate_left; (focus (intro w hSw; (try dsimp only at hSw); go_simp; try with_reducible rfl))) | (refine wpAnyH_take (i := 2) (v := undef) (by simp only [gA, gB, gC]; rfl) (by kernel_rfl) (by kernel_rfl) (by kernel_rfl) (by exact fun _ _ _ h => h) (Or.inr ⟨by rfl, rfl⟩) (by assumption) ?_) | fail); simp only [Act.put, sA, sB, sC]
      (first | (refine wpAnyH_take (i := 3) (v := ?_) (by simp only [gA, gB, gC]; rfl) (by kernel_rfl) (by kernel_rfl) (by kernel_rfl) (by exact fun _ _ _ h => h) (Or.inl ⟨by rfl, ?_⟩) (by assumption) ?_; rotate_left; (focus (intro w hSw; (try dsimp only at hSw); go_simp; try with_reducible rfl))) | (refine wpAnyH_take (i := 3) (v := undef) (by simp only [gA, gB, gC]; rfl) (by kernel_rfl) (by kernel_rfl) (by kernel_rfl) (by exact fun _ _ _ h => h) (Or.inr ⟨by rfl, rfl⟩) (by assumption) ?_) | fail); simp only [Act.put, sA, sB, sC]
      (first | (refine wpAnyH_take (i := 4) (v := ?_) (by simp only [gA, gB, gC]; rfl) (by kernel_rfl) (by kernel_rfl) (by kernel_rfl) (by exact fun _ _ _ h => h) (Or.inl ⟨by rfl, ?_⟩) (by assumption) ?_; rotate_left; (focus (intro w hSw; (try dsimp only at hSw); go_simp; try with_reducible rfl))) | (refine wpAnyH_take (i := 4) (v := undef) (by simp only [gA, gB, gC]; rfl) (by kernel_rfl) (by kernel_rfl) (by kernel_rfl) (by exact fun _ _ _ h => h) (Or.inr ⟨by rfl, rfl⟩) (by assumption) ?_) | fail); simp only [Act.put, sA, sB, sC]
      (first | (refine wpAnyH_take (i := 5) (v := ?_) (by simp only [gA, gB, gC]; rfl) (by kernel_rfl) (by kernel_rfl) (by kernel_rfl) (by exact fun _ _ _ h => h) (Or.inl ⟨by rfl, ?_⟩) (by assumption) ?_; rotate_left; (focus (intro w hSw; (try dsimp only at hSw); go_simp; try with_reducible rfl))) | (refine wpAnyH_take (i := 5) (v := undef) (by simp only [gA, gB, gC]; rfl) (by kernel_rfl) (by kernel_rfl) (by kernel_rfl) (by exact fun _ _ _ h => h) (Or.inr ⟨by rfl, rfl⟩) (by assumption) ?_) | fail); simp only [Act.put, sA, sB, sC]
      (first | (refine wpAnyH_take (i := 6) (v := ?_) (by simp only [gA, gB, gC]; rfl) (by kernel_rfl) (by kernel_rfl) (by kernel_rfl) (by exact fun _ _ _ h => h) (Or.inl ⟨by rfl, ?_⟩) (by assumption) ?_; rotate_left; (focus (intro w hSw; (try dsimp only at hSw); go_simp; try with_reducible rfl))) | (refine wpAnyH_take (i := 6) (v := undef) (by simp only [gA, gB, gC]; rfl) (by kernel_rfl) (by kernel_rfl) (by kernel_rfl) (by exact fun _ _ _ h => h) (Or.inr ⟨by rfl, rfl⟩) (by assumption) ?_) | fail); simp only [Act.put, sA, sB, sC]
      (first | (refine wpAnyH_take (i := 7) (v := ?_) (by simp only [gA, gB, gC]; rfl) (by kernel_rfl) (by kernel_rfl) (by kernel_rfl) (by exact fun _ _ _ h => h) (Or.inl ⟨by rfl, ?_⟩) (by assumption) ?_; rotate_left; (focus (intro w hSw; (try dsimp only at hSw); go_simp; try with_reducible rfl))) | (refine wpAnyH_take (i := 7) (v := undef) (by simp only [gA, gB, gC]; rfl) (by kernel_rfl) (by kernel_rfl) (by kernel_rfl) (by exact fun _ _ _ h => h) (Or.inr ⟨by rfl, rfl⟩) (by assumption) ?_) | fail); simp only [Act.put, sA, sB, sC]
      (first | (refine wpAnyH_take (i := 8) (v := ?_) (by simp only [gA, gB, gC]; rfl) (by kernel_rfl) (by kernel_rfl) (by kernel_rfl) (by exact fun _ _ _ h => h) (Or.inl ⟨by rfl, ?_⟩) (by assumption) ?_; rotate_left; (focus (intro w hSw; (try dsimp only at hSw); go_simp; try with_reducible rfl))) | (refine wpAnyH_take (i := 8) (v := undef) (by simp only [gA, gB, gC]; rfl) (by kernel_rfl) (by kernel_rfl) (by kernel_rfl) (by exact fun _ _ _ h => h) (Or.inr ⟨by rfl, rfl⟩) (by assumption) ?_) | fail); simp only [Act.put, sA, sB, sC]
      (first | (refine wpAnyH_take (i := 9) (v := ?_) (by simp only [gA, gB, gC]; rfl) (by kernel_rfl) (by kernel_rfl) (by kernel_rfl) (by exact fun _ _ _ h => h) (Or.inl ⟨by rfl, ?_⟩) (by assumption) ?_; rotate_left; (focus (intro w hSw; (try dsimp only at hSw); go_simp; try with_reducible rfl))) | (refine wpAnyH_take (i := 9) (v := undef) (by simp only [gA, gB, gC]; rfl) (by kernel_rfl) (by kernel_rfl) (by kernel_rfl) (by exact fun _ _ _ h => h) (Or.inr ⟨by rfl, rfl⟩) (by assumption) ?_) | fail); simp only [Act.put, sA, sB, sC]
      (first | (refine wpAnyH_take (i := 10) (v := ?_) (by simp only [gA, gB, gC]; rfl) (by kernel_rfl) (by kernel_rfl) (by kernel_rfl) (by exact fun _ _ _ h => h) (Or.inl ⟨by rfl, ?_⟩) (by assumption) ?_; rotate_left; (focus (intro w hSw; (try dsimp only at hSw); go_simp; try with_reducible rfl))) | (refine wpAnyH_take (i := 10) (v := undef) (by simp only [gA, gB, gC]; rfl) (by kernel_rfl) (by kernel_rfl) (by kernel_rfl) (by exact fun _ _ _ h => h) (Or.inr ⟨by rfl, rfl⟩) (by assumption) ?_) | fail); simp only [Act.put, sA, sB, sC]
      (first | (refine wpAnyH_take (i := 11) (v := ?_) (by simp only [gA, gB, gC]; rfl) (by kernel_rfl) (by kernel_rfl) (by kernel_rfl) (by exact fun _ _ _ h => h) (Or.inl ⟨by rfl, ?_⟩) (by assumption) ?_; rotate_left; (focus (intro w hSw; (try dsimp only at hSw); go_simp; try with_reducible rfl))) | (refine wpAnyH_take (i := 11) (v := undef) (by simp only [gA, gB, gC]; rfl) (by kernel_rfl) (by kernel_rfl) (by kernel_rfl) (by exact fun _ _ _ h => h) (Or.inr ⟨by rfl, rfl⟩) (by assumption) ?_) | fail); simp only [Act.put, sA, sB, sC]
      (first | (refine wpAnyH_take (i := 12) (v := ?_) (by simp only [gA, gB, gC]; rfl) (by kernel_rfl) (by kernel_rfl) (by kernel_rfl) (by exact fun _ _ _ h => h) (Or.inl ⟨by rfl, ?_⟩) (by assumption) ?_; rotate_left; (focus (intro w hSw; (try dsimp only at hSw); go_simp; try with_reducible rfl))) | (refine wpAnyH_take (i := 12) (v := undef) (by simp only [gA, gB, gC]; rfl) (by kernel_rfl) (by kernel_rfl) (by kernel_rfl) (by exact fun _ _ _ h => h) (Or.inr ⟨by rfl, rfl⟩) (by assumption) ?_) | fail); simp only [Act.put, sA, sB, sC]
      (first | (refine wpAnyH_take (i := 13) (v := ?_) (by simp only [gA, gB, gC]; rfl) (by kernel_rfl) (by kernel_rfl) (by kernel_rfl) (by exact fun _ _ _ h => h) (Or.inl ⟨by rfl, ?_⟩) (by assumption) ?_; rotate_left; (focus (intro w hSw; (try dsimp only at hSw); go_simp; try with_reducible rfl))) | (refine wpAnyH_take (i := 13) (v := undef) (by simp only [gA, gB, gC]; rfl) (by kernel_rfl) (by kernel_rfl) (by kernel_rfl) (by exact fun _ _ _ h => h) (Or.inr ⟨by rfl, rfl⟩) (by assumption) ?_) | fail); simp only [Act.put, sA, sB, sC]
      refine wpAnyH_done (by kernel_rfl) ?_ _
      clear q0 hrk hbk
      obtain ⟨A1, A2, v2, W2, v3, W3, v4, W4, hs1, hs2, hap2, hap3, hap4, hb2, ho4, hb4⟩ := put_tail wr.drew a1 n c1 k m x hn.out hk hle1 hno1 hn1 hrkd
      have hbz : Blk W2 w.heap.size x.cs := hbkd.same (hb2.block _ (Nat.lt_of_lt_of_le hlt1 hBd.size))
      have hrg := hbz.range
      obtain ⟨ht1, ht2⟩ := tw_take m k hall (fun q hq => by have := (List.getElem?_eq_some_iff.1 hq).1; rw [hn.out] at this; omega)
      rw [← ht1, ← ht2] at ho4
      replace ho4 := ho4.lower (Nat.le_trans (Nat.le_of_lt hlt1) hBd.size)
      have hBz := (hB2.trans (hBd.mono (Nat.le_of_lt hlt1))).trans (hb4.mono (Nat.le_trans (Nat.le_of_lt hlt1) hBd.size))
      obtain ⟨cs, hcx⟩ : ∃ cs, x.cs = cs := ⟨_, rfl⟩
      have hlen : cs.length = 16 := by rw [← hcx]; rfl
      rw [hcx] at hrg hap3
      rw [← hlen] at hsz
      clear hcx hcs hbz hb1 ht1 ht2 hb4 hb2
      go_wp2_with (first | (refine wpList_load_row rfl _ rfl w.heap.size rfl cs hrg hund rfl hsz ?_) | (refine wpList_build1 pn_ok (by decide) rfl _ rfl cs rfl hlen ?_) | (refine wpList_append rfl _ _ rfl rfl rfl rfl hap2 ?_) | (refine wpList_append rfl _ _ rfl rfl rfl rfl hap3 ?_) | (refine wpList_append rfl _ _ rfl rfl rfl rfl hap4 ?_) | fail)
      go_ret
      exact ⟨_, rfl, ho4, hBz⟩
end Go.Proofs.YtapgjdmnlkedgabDoor

/-! THE FIRST NODES: the document's own First (donjonref11). Written by mk_tfirst.py. -/
namespace Go.Proofs.YtapgjdmnlkedgabDoor
open Go.RowKit
set_option maxRecDepth 8000
set_option linter.unusedSimpArgs false
set_option linter.unusedVariables false

def lrow (l : Lab) : List Value := [.int .i64 l.s, .int .i64 l.c, .int .i64 l.i, .int .i64 l.k]
theorem lab_ok : ElemOk 28 22 4 lrow :=
  ⟨Tryd.underlying22, by
    obtain ⟨i, h1, h2, h3, h4⟩ := info_of (e := 28) (z := .agg #[.int .i64 0, .int .i64 0, .int .i64 0, .int .i64 0]) (sz := 4) (b := 32) (by kernel_rfl)
    exact ⟨i, _, _, h1, h2, h3, h4, rfl, by omega⟩, by omega, fun _ => rfl, fun x u hu => by simp [lrow] at hu; rcases hu with rfl | rfl | rfl | rfl <;> rfl⟩
theorem rlbottom_any (w : World) :
    Calls Tryd.prog 17 #[] w fun e w' => e = .returned bottomL.v ∧ Below w.heap.size w w' := by
  go_enter Tryd.func17, Tryd.ntmps17
  go_wp2
  refine bodyPost_ret (v := bottomL.v) (by simp [results, Tryd.results17, go_sem, bottomL]) rfl ⟨rfl, (Below.refl _ _).alloc (Nat.le_refl _) _⟩
section
variable {ops : Array Oper} {o : Oper} {a : Act} {w : World} {Q : Exit → Act → World → Prop} {S : World → Prop}
/-- A load of one cell, in a region that draws. -/
theorem yields_cell {T : TypeId} (hw : Region.wanted o (yielded ops a.tmps) = true) (x : Operand) (ho : o.op = .load T x) (y : Addr) (hx : a.eval x = .pointer (some y)) (v : Value) (hS : ∀ w, S w → w.cell? y = some v) (hl : ∀ w y v, w.cell? y = some v → (Instr.loadAt T (.pointer (some y))).run Tryd.prog w = .ok v w) : YieldsIf Tryd.prog ops S o v a :=
  .inl ⟨hw, fun w hw' => by
    unfold execOp
    simp only [ho, hx, Sem.run_bind, hl w y v (hS w hw'), Result.andThen_ok]
    rfl⟩
theorem step_conv {t u : TypeId} {K : Act → World → Prop} {E : Prop} {v r : Value} (hg : o.guard = none) (x : Operand) (ho : o.op = .convert t u x) (hx : a.eval x = v) (hr : (convert t u v).run Tryd.prog w = .ok r w) (hK : K (a.put o.dst r) w) :
    if Region.wanted o (yielded ops a.tmps) = true then Oper.wp Tryd.prog o a w K Q else E := by
  have hw : Region.wanted o (yielded ops a.tmps) = true := by simp [Region.wanted, hg]
  rw [if_pos hw]
  unfold Oper.wp execOp
  simp only [ho, hx, Sem.run_bind, hr, Result.andThen_ok]
  exact hK
end
theorem slab_load (w : World) (y : Addr) (v : Value) (h : w.cell? y = some v) : (Instr.loadAt 22 (.pointer (some y))).run Tryd.prog w = .ok v w := by
  simp [go_sem, h]
def firstP (ts : List Lab) (i : Nat) (ag : Option Addr) : List PN := (firstTo ts i).map fun n => ⟨n, ag, 1, none, 0⟩
theorem firstP_len (ts : List Lab) (i : Nat) (ag : Option Addr) : (firstP ts i ag).length = (distTo ts i).length + 1 := by simp [firstP, firstTo]
theorem firstP_names (ts : List Lab) (i : Nat) (ag : Option Addr) : namesP (firstP ts i ag) = firstTo ts i := by
  unfold namesP firstP
  rw [List.map_map]
  exact List.map_id' _
theorem firstP_succ (ts : List Lab) (i : Nat) (ag : Option Addr) : firstP ts (i + 1) ag = if (ts.take i).any (fun t => labEq t (ts.getD i bottomL)) = true then firstP ts i ag else firstP ts i ag ++ [⟨dirN (distTo ts i).length (ts.getD i bottomL), ag, 1, none, 0⟩] := by
  unfold firstP
  rw [first_succ]
  split
  · rfl
  · simp
theorem dist_succ (ts : List Lab) (i : Nat) : (distTo ts (i + 1)).length = if (ts.take i).any (fun t => labEq t (ts.getD i bottomL)) = true then (distTo ts i).length else (distTo ts i).length + 1 := by
  rw [distTo]
  split <;> simp
theorem l_path (q : Nat) : (⟨#[47, 108]⟩ : ByteArray) ++ chr (48 + q) = ⟨#[47, 108, UInt8.ofNat (48 + q)]⟩ := by
  apply bytes_inj
  rw [bytes_append]
  rfl
theorem dir_cs (w : World) (q : Nat) (tt : Lab) : (PN.cs ⟨dirN q tt, some ⟨w.heap.size + 1, 0, none⟩, 1, none, 0⟩) = [.string (⟨#[47, 108]⟩ ++ chr (48 + q)), .bool true, .int .i64 tt.s, .int .i64 tt.c, .int .i64 tt.i, .int .i64 tt.k, .slice (some ⟨w.heap.size + 1, 0, none⟩) 1 1, .int .i64 0, .int .i64 0, .int .i64 0, .int .i64 0, .slice none 0 0, .int .i64 bottomL.s, .int .i64 bottomL.c, .int .i64 bottomL.i, .int .i64 bottomL.k] := by
  rw [l_path]
  rfl
theorem any_take {ts : List Lab} {j : Nat} {t : Lab} (h : ts[j]? = some t) (f : Lab → Bool) : (ts.take (j + 1)).any f = ((ts.take j).any f || f t) := by
  rw [List.take_add_one, h]
  simp
theorem own_one (x : PN) (W : World) {base : Nat} (hb : base ≤ W.heap.size) : OwnN (W.alloc (.cells x.cs.toArray 34)) base (.slice (some ⟨W.heap.size, 0, none⟩) 1 1) [x] := by
  refine ⟨by simp [pn_len], .inr ⟨W.heap.size, 1, x.cs.toArray, rfl, hb, heap_alloc_new W _, Nat.le_refl _, by simp only [maxLen]; omega, by simp [pn_len], ?_⟩⟩
  simp
  exact List.take_of_length_le (by rw [pn_len]; omega)
/-- Where First stands: the config's box, the list for all. -/
structure FsZ (w W : World) (ta : Option Addr) (n ct : Nat) : Prop where
  box : W.cell? ⟨w.heap.size, 0, none⟩ = some (.slice ta n ct)
  all : GrsAt W (some ⟨w.heap.size + 1, 0, none⟩) allG
  bl : Below w.heap.size w W
  sz : w.heap.size + 2 ≤ W.heap.size
section
variable {w W W' : World} {ta : Option Addr} {n ct : Nat}
theorem FsZ.grown (h : FsZ w W ta n ct) (b : Below (w.heap.size + 2) W W') : FsZ w W' ta n ct := by
  refine ⟨(b.cell (p := ⟨w.heap.size, 0, none⟩) (by show w.heap.size < w.heap.size + 2; omega)).trans h.box, fun j q hq => ?_, h.bl.trans (b.mono (by omega)), Nat.le_trans h.sz b.size⟩
  obtain ⟨y, hy, h1, h2⟩ := h.all j q hq
  obtain rfl := Option.some.inj hy
  have hb : ((⟨w.heap.size + 1, 0, none⟩ : Addr).add (j * 2)).block < w.heap.size + 2 := by rw [add_at]; show w.heap.size + 1 < _; omega
  exact ⟨_, rfl, (b.cell hb).trans h1, (b.cell (p := ⟨_, _, none⟩) hb).trans h2⟩
theorem FsZ.then (h : FsZ w W ta n ct) (b : Below W.heap.size W W') : FsZ w W' ta n ct := h.grown (b.mono h.sz)
theorem FsZ.lab {y : Addr} {ts : List Lab} (h : FsZ w W (some y) n ct) (hl : RowAt 4 lrow w (some y) ts) {j : Nat} {t : Lab} (ht : ts[j]? = some t) : CellsAt W (y.add (j * 4)) [.int .i64 t.s, .int .i64 t.c, .int .i64 t.i, .int .i64 t.k] := (hl.below lab_ok.len h.bl).at lab_ok.len ht
end
set_option maxRecDepth 20000 in
set_option maxHeartbeats 8000000 in
theorem rfirstT_any (ta : Option Addr) (ct : Nat) (ts : List Lab) (ua ra : Option Addr) (nu cu nr cr : Nat) (hn9 : ts.length ≤ 9) (w : World) (hl : RowAt 4 lrow w ta ts) :
    Calls Tryd.prog 16 #[.agg #[.slice ta ts.length ct, .slice ua nu cu, .slice ra nr cr]] w fun e w' => ∃ v, e = .returned v ∧ OwnN w' w.heap.size v (firstP ts ts.length (some ⟨w.heap.size + 1, 0, none⟩)) ∧ GrsAt w' (some ⟨w.heap.size + 1, 0, none⟩) allG ∧ Below w.heap.size w w' := by
  have hsl : (Tryd.prog.info? 28).map (·.size) = some 4 := by kernel_rfl
  have heq := run_eql_lab
  obtain ⟨n, hn⟩ : ∃ n, ts.length = n := ⟨_, rfl⟩
  rw [hn] at hn9 ⊢
  replace hn : Aside (ts.length = n) := hn
  have hdl := dist_len ts
  have h0 : FsZ w ((w.alloc (.cells #[.slice ta n ct, .slice ua nu cu, .slice ra nr cr] 53)).alloc (.cells #[.string ⟨#[42]⟩, .int .i64 7] 74)) ta n ct := by
    have b1 := alloc_below w (.cells #[.slice ta n ct, .slice ua nu cu, .slice ra nr cr] 53)
    have m1 := blk_alloc w #[.slice ta n ct, .slice ua nu cu, .slice ra nr cr] 53
    have s1 := World.size_alloc w (.cells #[.slice ta n ct, .slice ua nu cu, .slice ra nr cr] 53)
    generalize w.alloc (.cells #[.slice ta n ct, .slice ua nu cu, .slice ra nr cr] 53) = W1 at *
    have b2 := alloc_below W1 (.cells #[.string ⟨#[42]⟩, .int .i64 7] 74)
    have m2 := blk_alloc W1 #[.string ⟨#[42]⟩, .int .i64 7] 74
    have s2 := World.size_alloc W1 (.cells #[.string ⟨#[42]⟩, .int .i64 7] 74)
    rw [s1] at m2
    refine ⟨((m1.same (b2.block _ (by omega))) 0 _ rfl).1, fun j q hq => ?_, Below.then b1 b2, by omega⟩
    have hj : j = 0 := by have := (List.getElem?_eq_some_iff.1 hq).1; simp [allG] at this; omega
    subst hj
    obtain rfl : (⟨starS, 7⟩ : Gr) = q := by simpa [allG] using hq
    exact ⟨_, rfl, (m2 0 _ rfl).1, (m2 1 _ rfl).1⟩
  go_enter Tryd.func16, Tryd.ntmps16
  go_wp2_with fail
  generalize (w.alloc (.cells #[.slice ta n ct, .slice ua nu cu, .slice ra nr cr] 53)).alloc (.cells #[.string ⟨#[42]⟩, .int .i64 7] 74) = W0 at *
  refine (rlbottom_any W0).mono ?_
  rintro e W1 ⟨rfl, hB1⟩
  have h1 := h0.then hB1
  go_wp2_with fail
  refine (rlbottom_any W1).mono ?_
  rintro e W2 ⟨rfl, hB2⟩
  have h2 := h1.then hB2
  have hrt : OwnN (W2.alloc (.cells [.string ⟨#[47]⟩, .bool true, .int .i64 bottomL.s, .int .i64 bottomL.c, .int .i64 bottomL.i, .int .i64 bottomL.k, .slice (some ⟨w.heap.size + 1, 0, none⟩) 1 1, .int .i64 0, .int .i64 0, .int .i64 0, .int .i64 0, .slice none 0 0, .int .i64 bottomL.s, .int .i64 bottomL.c, .int .i64 bottomL.i, .int .i64 bottomL.k].toArray 34)) (w.heap.size + 2) (.slice (some ⟨W2.heap.size, 0, none⟩) 1 1) (firstP ts 0 (some ⟨w.heap.size + 1, 0, none⟩)) := own_one (⟨rootN, some ⟨w.heap.size + 1, 0, none⟩, 1, none, 0⟩ : PN) W2 h2.sz
  have h3 := h2.then (alloc_below W2 (.cells [.string ⟨#[47]⟩, .bool true, .int .i64 bottomL.s, .int .i64 bottomL.c, .int .i64 bottomL.i, .int .i64 bottomL.k, .slice (some ⟨w.heap.size + 1, 0, none⟩) 1 1, .int .i64 0, .int .i64 0, .int .i64 0, .int .i64 0, .slice none 0 0, .int .i64 bottomL.s, .int .i64 bottomL.c, .int .i64 bottomL.i, .int .i64 bottomL.k].toArray 34))
  clear h0 h1 h2 hB1 hB2
  go_wp2_with (first | (refine wpList_build1 pn_ok (by decide) rfl _ rfl [.string ⟨#[47]⟩, .bool true, .int .i64 bottomL.s, .int .i64 bottomL.c, .int .i64 bottomL.i, .int .i64 bottomL.k, .slice (some ⟨w.heap.size + 1, 0, none⟩) 1 1, .int .i64 0, .int .i64 0, .int .i64 0, .int .i64 0, .slice none 0 0, .int .i64 bottomL.s, .int .i64 bottomL.c, .int .i64 bottomL.i, .int .i64 bottomL.k] rfl rfl ?_) | fail)
  generalize W2.alloc (.cells [.string ⟨#[47]⟩, .bool true, .int .i64 bottomL.s, .int .i64 bottomL.c, .int .i64 bottomL.i, .int .i64 bottomL.k, .slice (some ⟨w.heap.size + 1, 0, none⟩) 1 1, .int .i64 0, .int .i64 0, .int .i64 0, .int .i64 0, .slice none 0 0, .int .i64 bottomL.s, .int .i64 bottomL.c, .int .i64 bottomL.i, .int .i64 bottomL.k].toArray 34) = W3 at *
  generalize W2.heap.size = rb at *
  go_loopw [4, 5, 6] (fun t4 t5 t6 wr => ∃ i : Nat, i ≤ n ∧ t6 = .int .i64 (i : Int) ∧ ∃ q : Nat, t5 = .int .i64 (q : Int) ∧ Aside (q = (distTo ts i).length) ∧ FsZ w wr ta n ct ∧ OwnN wr (w.heap.size + 2) t4 (firstP ts i (some ⟨w.heap.size + 1, 0, none⟩))) (fun _ _ t6 _ => n - (Go.RowKit.intOf t6).toNat)
  case atStart => exact ⟨0, by omega, rfl, 0, rfl, rfl, h3, hrt⟩
  case round =>
    clear h3 hrt
    obtain ⟨i, hi, rfl, q, rfl, hq, hS, ho⟩ := hrel
    have hbx := hS.box
    have hq9 : q ≤ 9 := by rw [hq.out]; have := hdl i; omega
    by_cases hlt : i < n
    · obtain ⟨tt, hti⟩ : ∃ tt, ts[i]? = some tt := ⟨_, List.getElem?_eq_getElem (by rw [hn.out]; exact hlt)⟩
      have hgd : ts.getD i bottomL = tt := by rw [List.getD_eq_getElem?_getD, hti]; rfl
      obtain ⟨y, rfl, -⟩ := hl i tt hti
      have hfs := firstP_succ ts i (some ⟨w.heap.size + 1, 0, none⟩)
      have hds := dist_succ ts i
      rw [hgd] at hfs hds
      replace hfs : Aside _ := hfs
      replace hds : Aside _ := hds
      clear hgd
      go_wp2_with fail
      clear hbx
      go_loopw [7, 8] (fun t7 t8 wq => ∃ j : Nat, j ≤ i ∧ t8 = .int .i64 (j : Int) ∧ t7 = .bool ((ts.take j).any (fun t => labEq t tt)) ∧ FsZ w wq (some y) n ct ∧ Below wr.heap.size wr wq) (fun _ t8 _ => i - (Go.RowKit.intOf t8).toNat)
      case atStart => exact ⟨0, by omega, rfl, rfl, hS, Below.refl _ _⟩
      case round =>
        obtain ⟨j, hj, rfl, rfl, hS2, hB⟩ := hrel
        have ho2 := ho.below hB
        by_cases hlt2 : j < i
        · obtain ⟨tj, htj⟩ : ∃ tj, ts[j]? = some tj := ⟨_, List.getElem?_eq_getElem (by rw [hn.out]; omega)⟩
          have hat := any_take htj (fun t => labEq t tt)
          have hS0 : FsZ w wr.drew (some y) n ct := hS2.then (Below.refl _ _).drew
          have hBd := hB.drew
          have i1 : (j : Int) < (i : Int) := by omega
          have i2 : (j : Int) < (n : Int) := by omega
          have i3 : (i : Int) < (n : Int) := by omega
          cases hb : (ts.take j).any (fun t => labEq t tt)
          · rw [hb, Bool.false_or] at hat
            clear hS ho ho2
            go_wp2_with fail
            refine wp_region_held_drew (S := (fun W => FsZ w W (some y) n ct)) (by kernel_rfl) (by exact hS0) ?_
            intro hHeld
            (first | (refine wpAnyH_take (i := 0) (v := ?_) (by simp only [gA, gB, gC]; rfl) (by kernel_rfl) (by kernel_rfl) (by kernel_rfl) (by exact fun _ _ _ h => h) (Or.inl ⟨by rfl, ?_⟩) (by assumption) ?_; rotate_left; (focus (intro w hSw; (try dsimp only at hSw); go_simp; try with_reducible rfl))) | (refine wpAnyH_take (i := 0) (v := undef) (by simp only [gA, gB, gC]; rfl) (by kernel_rfl) (by kernel_rfl) (by kernel_rfl) (by exact fun _ _ _ h => h) (Or.inr ⟨by rfl, rfl⟩) (by assumption) ?_) | fail); simp only [Act.put, sA, sB, sC, Bool.not_true, Bool.not_false]
            (first | (refine wpAnyH_take (i := 1) (v := ?_) (by simp only [gA, gB, gC]; rfl) (by kernel_rfl) (by kernel_rfl) (by kernel_rfl) (by exact fun _ _ _ h => h) (Or.inl ⟨by rfl, ?_⟩) (by assumption) ?_; rotate_left; (focus (intro w hSw; (try dsimp only at hSw); go_simp; try with_reducible rfl))) | (refine wpAnyH_take (i := 1) (v := undef) (by simp only [gA, gB, gC]; rfl) (by kernel_rfl) (by kernel_rfl) (by kernel_rfl) (by exact fun _ _ _ h => h) (Or.inr ⟨by rfl, rfl⟩) (by assumption) ?_) | fail); simp only [Act.put, sA, sB, sC, Bool.not_true, Bool.not_false]
            (first | (refine wpAnyH_take (i := 2) (v := ?_) (by simp only [gA, gB, gC]; rfl) (by kernel_rfl) (by kernel_rfl) (by kernel_rfl) (by exact fun _ _ _ h => h) (Or.inl ⟨by rfl, ?_⟩) (by assumption) ?_; rotate_left; (focus (intro w hSw; (try dsimp only at hSw); go_simp; try with_reducible rfl))) | (refine wpAnyH_take (i := 2) (v := undef) (by simp only [gA, gB, gC]; rfl) (by kernel_rfl) (by kernel_rfl) (by kernel_rfl) (by exact fun _ _ _ h => h) (Or.inr ⟨by rfl, rfl⟩) (by assumption) ?_) | fail); simp only [Act.put, sA, sB, sC, Bool.not_true, Bool.not_false]
            (first | (refine wpAnyH_take (i := 3) (v := _) (by simp only [gA, gB, gC]; rfl) (by kernel_rfl) (by kernel_rfl) (by kernel_rfl) (by exact fun _ _ _ h => h) (yields_cell (by rfl) _ rfl ⟨w.heap.size, 0, none⟩ rfl (.slice (some y) n ct) (fun _ q => q.box) slab_load) (by assumption) ?_) | (refine wpAnyH_take (i := 3) (v := undef) (by simp only [gA, gB, gC]; rfl) (by kernel_rfl) (by kernel_rfl) (by kernel_rfl) (by exact fun _ _ _ h => h) (Or.inr ⟨by rfl, rfl⟩) (by assumption) ?_) | fail); simp only [Act.put, sA, sB, sC, Bool.not_true, Bool.not_false]
            (first | (refine wpAnyH_take (i := 4) (v := ?_) (by simp only [gA, gB, gC]; rfl) (by kernel_rfl) (by kernel_rfl) (by kernel_rfl) (by exact fun _ _ _ h => h) (Or.inl ⟨by rfl, ?_⟩) (by assumption) ?_; rotate_left; (focus (intro w hSw; (try dsimp only at hSw); go_simp; try with_reducible rfl))) | (refine wpAnyH_take (i := 4) (v := undef) (by simp only [gA, gB, gC]; rfl) (by kernel_rfl) (by kernel_rfl) (by kernel_rfl) (by exact fun _ _ _ h => h) (Or.inr ⟨by rfl, rfl⟩) (by assumption) ?_) | fail); simp only [Act.put, sA, sB, sC, Bool.not_true, Bool.not_false]
            (first | (refine wpAnyH_take (i := 5) (v := ?_) (by simp only [gA, gB, gC]; rfl) (by kernel_rfl) (by kernel_rfl) (by kernel_rfl) (by exact fun _ _ _ h => h) (Or.inl ⟨by rfl, ?_⟩) (by assumption) ?_; rotate_left; (focus (intro w hSw; (try dsimp only at hSw); go_simp; try with_reducible rfl))) | (refine wpAnyH_take (i := 5) (v := undef) (by simp only [gA, gB, gC]; rfl) (by kernel_rfl) (by kernel_rfl) (by kernel_rfl) (by exact fun _ _ _ h => h) (Or.inr ⟨by rfl, rfl⟩) (by assumption) ?_) | fail); simp only [Act.put, sA, sB, sC, Bool.not_true, Bool.not_false]
            (first | (refine wpAnyH_take (i := 6) (v := _) (by simp only [gA, gB, gC]; rfl) (by kernel_rfl) (by kernel_rfl) (by kernel_rfl) (by exact fun _ _ _ h => h) (yields_at (by rfl) _ rfl _ rfl [.int .i64 tj.s, .int .i64 tj.c, .int .i64 tj.i, .int .i64 tj.k] (fun _ q => q.lab hl htj) Tryd.underlying28 rfl hsl) (by assumption) ?_) | (refine wpAnyH_take (i := 6) (v := undef) (by simp only [gA, gB, gC]; rfl) (by kernel_rfl) (by kernel_rfl) (by kernel_rfl) (by exact fun _ _ _ h => h) (Or.inr ⟨by rfl, rfl⟩) (by assumption) ?_) | fail); simp only [Act.put, sA, sB, sC, Bool.not_true, Bool.not_false]
            (first | (refine wpAnyH_take (i := 7) (v := ?_) (by simp only [gA, gB, gC]; rfl) (by kernel_rfl) (by kernel_rfl) (by kernel_rfl) (by exact fun _ _ _ h => h) (Or.inl ⟨by rfl, ?_⟩) (by assumption) ?_; rotate_left; (focus (intro w hSw; (try dsimp only at hSw); go_simp; try with_reducible rfl))) | (refine wpAnyH_take (i := 7) (v := undef) (by simp only [gA, gB, gC]; rfl) (by kernel_rfl) (by kernel_rfl) (by kernel_rfl) (by exact fun _ _ _ h => h) (Or.inr ⟨by rfl, rfl⟩) (by assumption) ?_) | fail); simp only [Act.put, sA, sB, sC, Bool.not_true, Bool.not_false]
            (first | (refine wpAnyH_take (i := 8) (v := _) (by simp only [gA, gB, gC]; rfl) (by kernel_rfl) (by kernel_rfl) (by kernel_rfl) (by exact fun _ _ _ h => h) (yields_cell (by rfl) _ rfl ⟨w.heap.size, 0, none⟩ rfl (.slice (some y) n ct) (fun _ q => q.box) slab_load) (by assumption) ?_) | (refine wpAnyH_take (i := 8) (v := undef) (by simp only [gA, gB, gC]; rfl) (by kernel_rfl) (by kernel_rfl) (by kernel_rfl) (by exact fun _ _ _ h => h) (Or.inr ⟨by rfl, rfl⟩) (by assumption) ?_) | fail); simp only [Act.put, sA, sB, sC, Bool.not_true, Bool.not_false]
            (first | (refine wpAnyH_take (i := 9) (v := ?_) (by simp only [gA, gB, gC]; rfl) (by kernel_rfl) (by kernel_rfl) (by kernel_rfl) (by exact fun _ _ _ h => h) (Or.inl ⟨by rfl, ?_⟩) (by assumption) ?_; rotate_left; (focus (intro w hSw; (try dsimp only at hSw); go_simp; try with_reducible rfl))) | (refine wpAnyH_take (i := 9) (v := undef) (by simp only [gA, gB, gC]; rfl) (by kernel_rfl) (by kernel_rfl) (by kernel_rfl) (by exact fun _ _ _ h => h) (Or.inr ⟨by rfl, rfl⟩) (by assumption) ?_) | fail); simp only [Act.put, sA, sB, sC, Bool.not_true, Bool.not_false]
            (first | (refine wpAnyH_take (i := 10) (v := ?_) (by simp only [gA, gB, gC]; rfl) (by kernel_rfl) (by kernel_rfl) (by kernel_rfl) (by exact fun _ _ _ h => h) (Or.inl ⟨by rfl, ?_⟩) (by assumption) ?_; rotate_left; (focus (intro w hSw; (try dsimp only at hSw); go_simp; try with_reducible rfl))) | (refine wpAnyH_take (i := 10) (v := undef) (by simp only [gA, gB, gC]; rfl) (by kernel_rfl) (by kernel_rfl) (by kernel_rfl) (by exact fun _ _ _ h => h) (Or.inr ⟨by rfl, rfl⟩) (by assumption) ?_) | fail); simp only [Act.put, sA, sB, sC, Bool.not_true, Bool.not_false]
            (first | (refine wpAnyH_take (i := 11) (v := _) (by simp only [gA, gB, gC]; rfl) (by kernel_rfl) (by kernel_rfl) (by kernel_rfl) (by exact fun _ _ _ h => h) (yields_at (by rfl) _ rfl _ rfl [.int .i64 tt.s, .int .i64 tt.c, .int .i64 tt.i, .int .i64 tt.k] (fun _ q => q.lab hl hti) Tryd.underlying28 rfl hsl) (by assumption) ?_) | (refine wpAnyH_take (i := 11) (v := undef) (by simp only [gA, gB, gC]; rfl) (by kernel_rfl) (by kernel_rfl) (by kernel_rfl) (by exact fun _ _ _ h => h) (Or.inr ⟨by rfl, rfl⟩) (by assumption) ?_) | fail); simp only [Act.put, sA, sB, sC, Bool.not_true, Bool.not_false]
            (first | (refine wpAnyH_take (i := 12) (v := ?_) (by simp only [gA, gB, gC]; rfl) (by kernel_rfl) (by kernel_rfl) (by kernel_rfl) (by exact fun _ _ _ h => h) (Or.inl ⟨by rfl, ?_⟩) (by assumption) ?_; rotate_left; (focus (intro w hSw; (try dsimp only at hSw); go_simp; try with_reducible rfl))) | (refine wpAnyH_take (i := 12) (v := undef) (by simp only [gA, gB, gC]; rfl) (by kernel_rfl) (by kernel_rfl) (by kernel_rfl) (by exact fun _ _ _ h => h) (Or.inr ⟨by rfl, rfl⟩) (by assumption) ?_) | fail); simp only [Act.put, sA, sB, sC, Bool.not_true, Bool.not_false]
            (first | (refine wpAnyH_take (i := 13) (v := ?_) (by simp only [gA, gB, gC]; rfl) (by kernel_rfl) (by kernel_rfl) (by kernel_rfl) (by exact fun _ _ _ h => h) (Or.inl ⟨by rfl, ?_⟩) (by assumption) ?_; rotate_left; (focus (intro w hSw; (try dsimp only at hSw); go_simp; try with_reducible rfl))) | (refine wpAnyH_take (i := 13) (v := undef) (by simp only [gA, gB, gC]; rfl) (by kernel_rfl) (by kernel_rfl) (by kernel_rfl) (by exact fun _ _ _ h => h) (Or.inr ⟨by rfl, rfl⟩) (by assumption) ?_) | fail); simp only [Act.put, sA, sB, sC, Bool.not_true, Bool.not_false]
            (first | (refine wpAnyH_take (i := 14) (v := ?_) (by simp only [gA, gB, gC]; rfl) (by kernel_rfl) (by kernel_rfl) (by kernel_rfl) (by exact fun _ _ _ h => h) (Or.inl ⟨by rfl, ?_⟩) (by assumption) ?_; rotate_left; (focus (intro w hSw; (try dsimp only at hSw); go_simp; try with_reducible rfl))) | (refine wpAnyH_take (i := 14) (v := undef) (by simp only [gA, gB, gC]; rfl) (by kernel_rfl) (by kernel_rfl) (by kernel_rfl) (by exact fun _ _ _ h => h) (Or.inr ⟨by rfl, rfl⟩) (by assumption) ?_) | fail); simp only [Act.put, sA, sB, sC, Bool.not_true, Bool.not_false]
            refine wpAnyH_done (by kernel_rfl) ?_ _
            go_wp2_with fail
            exact ⟨⟨j + 1, by omega, by simp, by rw [hat], hS0, hBd⟩, by simp [Go.RowKit.intOf]; omega⟩
          · rw [hb, Bool.true_or] at hat
            clear hS ho ho2
            go_wp2_with fail
            refine wp_region_held_drew (S := (fun W => FsZ w W (some y) n ct)) (by kernel_rfl) (by exact hS0) ?_
            intro hHeld
            (first | (refine wpAnyH_take (i := 0) (v := ?_) (by simp only [gA, gB, gC]; rfl) (by kernel_rfl) (by kernel_rfl) (by kernel_rfl) (by exact fun _ _ _ h => h) (Or.inl ⟨by rfl, ?_⟩) (by assumption) ?_; rotate_left; (focus (intro w hSw; (try dsimp only at hSw); go_simp; try with_reducible rfl))) | (refine wpAnyH_take (i := 0) (v := undef) (by simp only [gA, gB, gC]; rfl) (by kernel_rfl) (by kernel_rfl) (by kernel_rfl) (by exact fun _ _ _ h => h) (Or.inr ⟨by rfl, rfl⟩) (by assumption) ?_) | fail); simp only [Act.put, sA, sB, sC, Bool.not_true, Bool.not_false]
            (first | (refine wpAnyH_take (i := 1) (v := ?_) (by simp only [gA, gB, gC]; rfl) (by kernel_rfl) (by kernel_rfl) (by kernel_rfl) (by exact fun _ _ _ h => h) (Or.inl ⟨by rfl, ?_⟩) (by assumption) ?_; rotate_left; (focus (intro w hSw; (try dsimp only at hSw); go_simp; try with_reducible rfl))) | (refine wpAnyH_take (i := 1) (v := undef) (by simp only [gA, gB, gC]; rfl) (by kernel_rfl) (by kernel_rfl) (by kernel_rfl) (by exact fun _ _ _ h => h) (Or.inr ⟨by rfl, rfl⟩) (by assumption) ?_) | fail); simp only [Act.put, sA, sB, sC, Bool.not_true, Bool.not_false]
            (first | (refine wpAnyH_take (i := 2) (v := ?_) (by simp only [gA, gB, gC]; rfl) (by kernel_rfl) (by kernel_rfl) (by kernel_rfl) (by exact fun _ _ _ h => h) (Or.inl ⟨by rfl, ?_⟩) (by assumption) ?_; rotate_left; (focus (intro w hSw; (try dsimp only at hSw); go_simp; try with_reducible rfl))) | (refine wpAnyH_take (i := 2) (v := undef) (by simp only [gA, gB, gC]; rfl) (by kernel_rfl) (by kernel_rfl) (by kernel_rfl) (by exact fun _ _ _ h => h) (Or.inr ⟨by rfl, rfl⟩) (by assumption) ?_) | fail); simp only [Act.put, sA, sB, sC, Bool.not_true, Bool.not_false]
            (first | (refine wpAnyH_take (i := 3) (v := _) (by simp only [gA, gB, gC]; rfl) (by kernel_rfl) (by kernel_rfl) (by kernel_rfl) (by exact fun _ _ _ h => h) (yields_cell (by rfl) _ rfl ⟨w.heap.size, 0, none⟩ rfl (.slice (some y) n ct) (fun _ q => q.box) slab_load) (by assumption) ?_) | (refine wpAnyH_take (i := 3) (v := undef) (by simp only [gA, gB, gC]; rfl) (by kernel_rfl) (by kernel_rfl) (by kernel_rfl) (by exact fun _ _ _ h => h) (Or.inr ⟨by rfl, rfl⟩) (by assumption) ?_) | fail); simp only [Act.put, sA, sB, sC, Bool.not_true, Bool.not_false]
            (first | (refine wpAnyH_take (i := 4) (v := ?_) (by simp only [gA, gB, gC]; rfl) (by kernel_rfl) (by kernel_rfl) (by kernel_rfl) (by exact fun _ _ _ h => h) (Or.inl ⟨by rfl, ?_⟩) (by assumption) ?_; rotate_left; (focus (intro w hSw; (try dsimp only at hSw); go_simp; try with_reducible rfl))) | (refine wpAnyH_take (i := 4) (v := undef) (by simp only [gA, gB, gC]; rfl) (by kernel_rfl) (by kernel_rfl) (by kernel_rfl) (by exact fun _ _ _ h => h) (Or.inr ⟨by rfl, rfl⟩) (by assumption) ?_) | fail); simp only [Act.put, sA, sB, sC, Bool.not_true, Bool.not_false]
            (first | (refine wpAnyH_take (i := 5) (v := ?_) (by simp only [gA, gB, gC]; rfl) (by kernel_rfl) (by kernel_rfl) (by kernel_rfl) (by exact fun _ _ _ h => h) (Or.inl ⟨by rfl, ?_⟩) (by assumption) ?_; rotate_left; (focus (intro w hSw; (try dsimp only at hSw); go_simp; try with_reducible rfl))) | (refine wpAnyH_take (i := 5) (v := undef) (by simp only [gA, gB, gC]; rfl) (by kernel_rfl) (by kernel_rfl) (by kernel_rfl) (by exact fun _ _ _ h => h) (Or.inr ⟨by rfl, rfl⟩) (by assumption) ?_) | fail); simp only [Act.put, sA, sB, sC, Bool.not_true, Bool.not_false]
            (first | (refine wpAnyH_take (i := 6) (v := _) (by simp only [gA, gB, gC]; rfl) (by kernel_rfl) (by kernel_rfl) (by kernel_rfl) (by exact fun _ _ _ h => h) (yields_at (by rfl) _ rfl _ rfl [.int .i64 tj.s, .int .i64 tj.c, .int .i64 tj.i, .int .i64 tj.k] (fun _ q => q.lab hl htj) Tryd.underlying28 rfl hsl) (by assumption) ?_) | (refine wpAnyH_take (i := 6) (v := undef) (by simp only [gA, gB, gC]; rfl) (by kernel_rfl) (by kernel_rfl) (by kernel_rfl) (by exact fun _ _ _ h => h) (Or.inr ⟨by rfl, rfl⟩) (by assumption) ?_) | fail); simp only [Act.put, sA, sB, sC, Bool.not_true, Bool.not_false]
            (first | (refine wpAnyH_take (i := 7) (v := ?_) (by simp only [gA, gB, gC]; rfl) (by kernel_rfl) (by kernel_rfl) (by kernel_rfl) (by exact fun _ _ _ h => h) (Or.inl ⟨by rfl, ?_⟩) (by assumption) ?_; rotate_left; (focus (intro w hSw; (try dsimp only at hSw); go_simp; try with_reducible rfl))) | (refine wpAnyH_take (i := 7) (v := undef) (by simp only [gA, gB, gC]; rfl) (by kernel_rfl) (by kernel_rfl) (by kernel_rfl) (by exact fun _ _ _ h => h) (Or.inr ⟨by rfl, rfl⟩) (by assumption) ?_) | fail); simp only [Act.put, sA, sB, sC, Bool.not_true, Bool.not_false]
            (first | (refine wpAnyH_take (i := 8) (v := _) (by simp only [gA, gB, gC]; rfl) (by kernel_rfl) (by kernel_rfl) (by kernel_rfl) (by exact fun _ _ _ h => h) (yields_cell (by rfl) _ rfl ⟨w.heap.size, 0, none⟩ rfl (.slice (some y) n ct) (fun _ q => q.box) slab_load) (by assumption) ?_) | (refine wpAnyH_take (i := 8) (v := undef) (by simp only [gA, gB, gC]; rfl) (by kernel_rfl) (by kernel_rfl) (by kernel_rfl) (by exact fun _ _ _ h => h) (Or.inr ⟨by rfl, rfl⟩) (by assumption) ?_) | fail); simp only [Act.put, sA, sB, sC, Bool.not_true, Bool.not_false]
            (first | (refine wpAnyH_take (i := 9) (v := ?_) (by simp only [gA, gB, gC]; rfl) (by kernel_rfl) (by kernel_rfl) (by kernel_rfl) (by exact fun _ _ _ h => h) (Or.inl ⟨by rfl, ?_⟩) (by assumption) ?_; rotate_left; (focus (intro w hSw; (try dsimp only at hSw); go_simp; try with_reducible rfl))) | (refine wpAnyH_take (i := 9) (v := undef) (by simp only [gA, gB, gC]; rfl) (by kernel_rfl) (by kernel_rfl) (by kernel_rfl) (by exact fun _ _ _ h => h) (Or.inr ⟨by rfl, rfl⟩) (by assumption) ?_) | fail); simp only [Act.put, sA, sB, sC, Bool.not_true, Bool.not_false]
            (first | (refine wpAnyH_take (i := 10) (v := ?_) (by simp only [gA, gB, gC]; rfl) (by kernel_rfl) (by kernel_rfl) (by kernel_rfl) (by exact fun _ _ _ h => h) (Or.inl ⟨by rfl, ?_⟩) (by assumption) ?_; rotate_left; (focus (intro w hSw; (try dsimp only at hSw); go_simp; try with_reducible rfl))) | (refine wpAnyH_take (i := 10) (v := undef) (by simp only [gA, gB, gC]; rfl) (by kernel_rfl) (by kernel_rfl) (by kernel_rfl) (by exact fun _ _ _ h => h) (Or.inr ⟨by rfl, rfl⟩) (by assumption) ?_) | fail); simp only [Act.put, sA, sB, sC, Bool.not_true, Bool.not_false]
            (first | (refine wpAnyH_take (i := 11) (v := _) (by simp only [gA, gB, gC]; rfl) (by kernel_rfl) (by kernel_rfl) (by kernel_rfl) (by exact fun _ _ _ h => h) (yields_at (by rfl) _ rfl _ rfl [.int .i64 tt.s, .int .i64 tt.c, .int .i64 tt.i, .int .i64 tt.k] (fun _ q => q.lab hl hti) Tryd.underlying28 rfl hsl) (by assumption) ?_) | (refine wpAnyH_take (i := 11) (v := undef) (by simp only [gA, gB, gC]; rfl) (by kernel_rfl) (by kernel_rfl) (by kernel_rfl) (by exact fun _ _ _ h => h) (Or.inr ⟨by rfl, rfl⟩) (by assumption) ?_) | fail); simp only [Act.put, sA, sB, sC, Bool.not_true, Bool.not_false]
            (first | (refine wpAnyH_take (i := 12) (v := ?_) (by simp only [gA, gB, gC]; rfl) (by kernel_rfl) (by kernel_rfl) (by kernel_rfl) (by exact fun _ _ _ h => h) (Or.inl ⟨by rfl, ?_⟩) (by assumption) ?_; rotate_left; (focus (intro w hSw; (try dsimp only at hSw); go_simp; try with_reducible rfl))) | (refine wpAnyH_take (i := 12) (v := undef) (by simp only [gA, gB, gC]; rfl) (by kernel_rfl) (by kernel_rfl) (by kernel_rfl) (by exact fun _ _ _ h => h) (Or.inr ⟨by rfl, rfl⟩) (by assumption) ?_) | fail); simp only [Act.put, sA, sB, sC, Bool.not_true, Bool.not_false]
            (first | (refine wpAnyH_take (i := 13) (v := ?_) (by simp only [gA, gB, gC]; rfl) (by kernel_rfl) (by kernel_rfl) (by kernel_rfl) (by exact fun _ _ _ h => h) (Or.inl ⟨by rfl, ?_⟩) (by assumption) ?_; rotate_left; (focus (intro w hSw; (try dsimp only at hSw); go_simp; try with_reducible rfl))) | (refine wpAnyH_take (i := 13) (v := undef) (by simp only [gA, gB, gC]; rfl) (by kernel_rfl) (by kernel_rfl) (by kernel_rfl) (by exact fun _ _ _ h => h) (Or.inr ⟨by rfl, rfl⟩) (by assumption) ?_) | fail); simp only [Act.put, sA, sB, sC, Bool.not_true, Bool.not_false]
            (first | (refine wpAnyH_take (i := 14) (v := ?_) (by simp only [gA, gB, gC]; rfl) (by kernel_rfl) (by kernel_rfl) (by kernel_rfl) (by exact fun _ _ _ h => h) (Or.inl ⟨by rfl, ?_⟩) (by assumption) ?_; rotate_left; (focus (intro w hSw; (try dsimp only at hSw); go_simp; try with_reducible rfl))) | (refine wpAnyH_take (i := 14) (v := undef) (by simp only [gA, gB, gC]; rfl) (by kernel_rfl) (by kernel_rfl) (by kernel_rfl) (by exact fun _ _ _ h => h) (Or.inr ⟨by rfl, rfl⟩) (by assumption) ?_) | fail); simp only [Act.put, sA, sB, sC, Bool.not_true, Bool.not_false]
            refine wpAnyH_done (by kernel_rfl) ?_ _
            go_wp2_with fail
            exact ⟨⟨j + 1, by omega, by simp, by rw [hat], hS0, hBd⟩, by simp [Go.RowKit.intOf]; omega⟩
        · obtain rfl : j = i := by omega
          cases hb : (ts.take j).any (fun t => labEq t tt)
          · replace hfs := hfs.out
            replace hds := hds.out
            rw [hb, if_neg (by decide)] at hfs hds
            rw [← hq.out] at hfs hds
            have hqn : Aside (q + 1 = (distTo ts (j + 1)).length) := hds.symm
            replace hfs : Aside _ := hfs
            clear hds hS ho hB
            have hS0 : FsZ w wr.drew (some y) n ct := hS2.then (Below.refl _ _).drew
            have ho0 : OwnN wr.drew (w.heap.size + 2) u4 (firstP ts j (some ⟨w.heap.size + 1, 0, none⟩)) := ho2
            have hwq : IntKind.i64.wrap (48 + (q : Int)) = ((48 + q : Nat) : Int) := by rw [IntKind.wrap_i64]; omega
            have hc2 : ¬ 9223372036854775807 < 2 + (chr (48 + q)).size := by show ¬ 9223372036854775807 < 2 + 1; decide
            have hwu2 : IntKind.u8.wrap (48 + (q : Int)) = ((48 + q : Nat) : Int) := by rw [IntKind.wrap_u8]; omega
            have hwu : IntKind.u8.wrap ((48 + q : Nat) : Int) = ((48 + q : Nat) : Int) := by rw [IntKind.wrap_u8]; omega
            clear hS2 ho2
            go_wp2_with fail
            refine wp_region_held_drew (S := (fun W => FsZ w W (some y) n ct)) (by kernel_rfl) (by exact hS0) ?_
            intro hHeld
            generalize wr.drew = w0 at *
            refine wpAnyH_take (i := 0) (v := ?_) (by simp only [gA, gB, gC]; rfl) (by kernel_rfl) (by kernel_rfl) (by kernel_rfl) (by exact fun _ _ _ h => h) (Or.inl ⟨by rfl, ?_⟩) (by assumption) ?_; rotate_left; (focus (intro w hSw; (try dsimp only at hSw); go_simp; try with_reducible rfl)); (try simp only [Act.put, sA, sB, sC])
            refine wpAnyH_take (i := 1) (v := ?_) (by simp only [gA, gB, gC]; rfl) (by kernel_rfl) (by kernel_rfl) (by kernel_rfl) (by exact fun _ _ _ h => h) (Or.inl ⟨by rfl, ?_⟩) (by assumption) ?_; rotate_left; (focus (intro w hSw; (try dsimp only at hSw); go_simp; try with_reducible rfl)); (try simp only [Act.put, sA, sB, sC])
            refine wpAnyH_take (i := 2) (v := ?_) (by simp only [gA, gB, gC]; rfl) (by kernel_rfl) (by kernel_rfl) (by kernel_rfl) (by exact fun _ _ _ h => h) (Or.inl ⟨by rfl, ?_⟩) (by assumption) ?_; rotate_left; (focus (intro w hSw; (try dsimp only at hSw); go_simp; try with_reducible rfl)); (try simp only [Act.put, sA, sB, sC])
            refine wpAnyH_take (i := 3) (v := ?_) (by simp only [gA, gB, gC]; rfl) (by kernel_rfl) (by kernel_rfl) (by kernel_rfl) (by exact fun _ _ _ h => h) (Or.inl ⟨by rfl, ?_⟩) (by assumption) ?_; rotate_left; (focus (intro w hSw; (try dsimp only at hSw); go_simp; try with_reducible rfl)); (try simp only [Act.put, sA, sB, sC])
            refine wpAnyH_take (i := 7) (v := ?_) (by simp only [gA, gB, gC]; rfl) (by kernel_rfl) (by kernel_rfl) (by kernel_rfl) (by exact fun _ _ _ h => h) (Or.inl ⟨by rfl, ?_⟩) (by assumption) ?_; rotate_left; (focus (intro w hSw; (try dsimp only at hSw); go_simp; try with_reducible rfl)); (try simp only [Act.put, sA, sB, sC])
            refine wpAnyH_take (i := 8) (v := _) (by simp only [gA, gB, gC]; rfl) (by kernel_rfl) (by kernel_rfl) (by kernel_rfl) (by exact fun _ _ _ h => h) (yields_cell (by rfl) _ rfl ⟨w.heap.size, 0, none⟩ rfl (.slice (some y) n ct) (fun _ q => q.box) slab_load) (by assumption) ?_; (try simp only [Act.put, sA, sB, sC])
            refine wpAnyH_take (i := 9) (v := ?_) (by simp only [gA, gB, gC]; rfl) (by kernel_rfl) (by kernel_rfl) (by kernel_rfl) (by exact fun _ _ _ h => h) (Or.inl ⟨by rfl, ?_⟩) (by assumption) ?_; rotate_left; (focus (intro w hSw; (try dsimp only at hSw); go_simp; try with_reducible rfl)); (try simp only [Act.put, sA, sB, sC])
            refine wpAnyH_take (i := 10) (v := ?_) (by simp only [gA, gB, gC]; rfl) (by kernel_rfl) (by kernel_rfl) (by kernel_rfl) (by exact fun _ _ _ h => h) (Or.inl ⟨by rfl, ?_⟩) (by assumption) ?_; rotate_left; (focus (intro w hSw; (try dsimp only at hSw); go_simp; try with_reducible rfl)); (try simp only [Act.put, sA, sB, sC])
            refine wpAnyH_take (i := 11) (v := _) (by simp only [gA, gB, gC]; rfl) (by kernel_rfl) (by kernel_rfl) (by kernel_rfl) (by exact fun _ _ _ h => h) (yields_at (by rfl) _ rfl _ rfl [.int .i64 tt.s, .int .i64 tt.c, .int .i64 tt.i, .int .i64 tt.k] (fun _ q => q.lab hl hti) Tryd.underlying28 rfl hsl) (by assumption) ?_; (try simp only [Act.put, sA, sB, sC])
            refine wpAnyH_take (i := 12) (v := ?_) (by simp only [gA, gB, gC]; rfl) (by kernel_rfl) (by kernel_rfl) (by kernel_rfl) (by exact fun _ _ _ h => h) (Or.inl ⟨by rfl, ?_⟩) (by assumption) ?_; rotate_left; (focus (intro w hSw; (try dsimp only at hSw); go_simp; try with_reducible rfl)); (try simp only [Act.put, sA, sB, sC])
            refine wpAnyH_ready (rs := [4, 13]) (by kernel_rfl) (by simp) ?_
            refine AllReadyH.cons (by simp only [gA, gB, gC]; rfl) (fun K hK => ?_) ?_
            · go_simp
              (try simp only [hwu2])
              refine hK.out _ _ (hS0.then (alloc_below _ _)) ?_
              clear hHeld hK
              intro hHeld
              have hbt := chr_made2 w0 q (by omega)
              have hS1 := hS0.then (alloc_below w0 (.cells #[.int .u8 (48 + (q : Int))] 5))
              have ho1 := ho0.below (alloc_below w0 (.cells #[.int .u8 (48 + (q : Int))] 5))
              generalize hwx : w0.alloc (.cells #[.int .u8 (48 + (q : Int))] 5) = w1 at *
              clear hwx
              generalize w0.heap.size = pb at *
              (try simp only [Act.put, sA, sB, sC])
              refine wpAnyH_ready (rs := [5, 13]) (by kernel_rfl) (by simp) ?_
              refine AllReadyH.cons (by simp only [gA, gB, gC]; rfl) (fun K hK => ?_) ?_
              · skip
                refine step_conv rfl _ rfl rfl hbt.conv ?_
                (try simp only [Act.put, sA, sB, sC])
                refine hK.out _ _ (hS1) ?_
                clear hHeld hK
                intro hHeld
                have hS2 := hS1
                have ho2 := ho1
                obtain ⟨w2, hww⟩ : ∃ w', w1 = w' := ⟨_, rfl⟩
                rw [hww] at hS2 ho2 hHeld ⊢
                clear hww
                (try simp only [Act.put, sA, sB, sC])
                refine wpAnyH_take (i := 6) (v := ?_) (by simp only [gA, gB, gC]; rfl) (by kernel_rfl) (by kernel_rfl) (by kernel_rfl) (by exact fun _ _ _ h => h) (Or.inl ⟨by rfl, ?_⟩) (by assumption) ?_; rotate_left; (focus (intro w hSw; (try dsimp only at hSw); go_simp; try with_reducible rfl)); (try simp only [Act.put, sA, sB, sC])
                refine wpAnyH_ready (rs := [13]) (by kernel_rfl) (by simp) ?_
                refine AllReadyH.cons (by simp only [gA, gB, gC]; rfl) (fun K hK => ?_) AllReadyH.nil
                go_simp
                go_at_call 17
                refine (rlbottom_any _).mono ?_
                rintro e w3 ⟨rfl, hB⟩
                have hS3 := hS2.then hB
                have ho3 := ho2.below hB
                refine hK.out _ _ (hS3) ?_
                clear hHeld hK
                intro hHeld
                (try simp only [Act.put, sA, sB, sC])
                refine wpAnyH_take (i := 14) (v := ?_) (by simp only [gA, gB, gC]; rfl) (by kernel_rfl) (by kernel_rfl) (by kernel_rfl) (by exact fun _ _ _ h => h) (Or.inl ⟨by rfl, ?_⟩) (by assumption) ?_; rotate_left; (focus (intro w hSw; (try dsimp only at hSw); go_simp; try with_reducible rfl)); (try simp only [Act.put, sA, sB, sC])
                refine wpAnyH_ready (rs := [15]) (by kernel_rfl) (by simp) ?_
                refine AllReadyH.cons (by simp only [gA, gB, gC]; rfl) (fun K hK => ?_) AllReadyH.nil
                refine step_build1 pn_ok (by decide) rfl _ rfl [.string (⟨#[47, 108]⟩ ++ chr (48 + q)), .bool true, .int .i64 tt.s, .int .i64 tt.c, .int .i64 tt.i, .int .i64 tt.k, .slice (some ⟨w.heap.size + 1, 0, none⟩) 1 1, .int .i64 0, .int .i64 0, .int .i64 0, .int .i64 0, .slice none 0 0, .int .i64 bottomL.s, .int .i64 bottomL.c, .int .i64 bottomL.i, .int .i64 bottomL.k] rfl rfl ?_
                (try simp only [Act.put, sA, sB, sC])
                refine hK.out _ _ (hS3.then (alloc_below _ _)) ?_
                clear hHeld hK
                intro hHeld
                obtain ⟨vz, wz, hap, hoz, hgz⟩ := OwnR.push pn_ok ho3 hS3.sz ⟨dirN q tt, some ⟨w.heap.size + 1, 0, none⟩, 1, none, 0⟩ [.string (⟨#[47, 108]⟩ ++ chr (48 + q)), .bool true, .int .i64 tt.s, .int .i64 tt.c, .int .i64 tt.i, .int .i64 tt.k, .slice (some ⟨w.heap.size + 1, 0, none⟩) 1 1, .int .i64 0, .int .i64 0, .int .i64 0, .int .i64 0, .slice none 0 0, .int .i64 bottomL.s, .int .i64 bottomL.c, .int .i64 bottomL.i, .int .i64 bottomL.k].toArray (by rw [dir_cs]) 34 (by rw [firstP_len]; have := hdl j; omega)
                have hbz := ho3.grew_below hS3.sz hgz
                have hSz := hS3.grown hbz
                rw [← hfs.out] at hoz
                (try simp only [Act.put, sA, sB, sC])
                refine wpAnyH_ready (rs := [16]) (by kernel_rfl) (by simp) ?_
                refine AllReadyH.cons (by simp only [gA, gB, gC]; rfl) (fun K hK => ?_) AllReadyH.nil
                refine step_append rfl _ _ rfl rfl rfl rfl hap ?_
                (try simp only [Act.put, sA, sB, sC])
                refine hK.out _ _ (hSz) ?_
                clear hHeld hK
                intro hHeld
                (try simp only [Act.put, sA, sB, sC])
                refine wpAnyH_take (i := 17) (v := ?_) (by simp only [gA, gB, gC]; rfl) (by kernel_rfl) (by kernel_rfl) (by kernel_rfl) (by exact fun _ _ _ h => h) (Or.inl ⟨by rfl, ?_⟩) (by assumption) ?_; rotate_left; (focus (intro w hSw; (try dsimp only at hSw); go_simp; try with_reducible rfl)); (try simp only [Act.put, sA, sB, sC])
                refine wpAnyH_done (by kernel_rfl) ?_ _
                go_wp2_with fail
                exact ⟨⟨j + 1, by omega, by simp, q + 1, by simp, hqn, hSz, hoz⟩, by simp [Go.RowKit.intOf]; omega⟩
              refine AllReadyH.cons (by simp only [gA, gB, gC]; rfl) (fun K hK => ?_) AllReadyH.nil
              go_simp
              go_at_call 17
              refine (rlbottom_any _).mono ?_
              rintro e w2 ⟨rfl, hB⟩
              have hS2 := hS1.then hB
              have ho2 := ho1.below hB
              have hbt := hbt.below hB
              refine hK.out _ _ (hS2) ?_
              clear hHeld hK
              intro hHeld
              (try simp only [Act.put, sA, sB, sC])
              refine wpAnyH_ready (rs := [5]) (by kernel_rfl) (by simp) ?_
              refine AllReadyH.cons (by simp only [gA, gB, gC]; rfl) (fun K hK => ?_) AllReadyH.nil
              refine step_conv rfl _ rfl rfl hbt.conv ?_
              (try simp only [Act.put, sA, sB, sC])
              refine hK.out _ _ (hS2) ?_
              clear hHeld hK
              intro hHeld
              have hS3 := hS2
              have ho3 := ho2
              obtain ⟨w3, hww⟩ : ∃ w', w2 = w' := ⟨_, rfl⟩
              rw [hww] at hS3 ho3 hHeld ⊢
              clear hww
              (try simp only [Act.put, sA, sB, sC])
              refine wpAnyH_take (i := 6) (v := ?_) (by simp only [gA, gB, gC]; rfl) (by kernel_rfl) (by kernel_rfl) (by kernel_rfl) (by exact fun _ _ _ h => h) (Or.inl ⟨by rfl, ?_⟩) (by assumption) ?_; rotate_left; (focus (intro w hSw; (try dsimp only at hSw); go_simp; try with_reducible rfl)); (try simp only [Act.put, sA, sB, sC])
              refine wpAnyH_take (i := 14) (v := ?_) (by simp only [gA, gB, gC]; rfl) (by kernel_rfl) (by kernel_rfl) (by kernel_rfl) (by exact fun _ _ _ h => h) (Or.inl ⟨by rfl, ?_⟩) (by assumption) ?_; rotate_left; (focus (intro w hSw; (try dsimp only at hSw); go_simp; try with_reducible rfl)); (try simp only [Act.put, sA, sB, sC])
              refine wpAnyH_ready (rs := [15]) (by kernel_rfl) (by simp) ?_
              refine AllReadyH.cons (by simp only [gA, gB, gC]; rfl) (fun K hK => ?_) AllReadyH.nil
              refine step_build1 pn_ok (by decide) rfl _ rfl [.string (⟨#[47, 108]⟩ ++ chr (48 + q)), .bool true, .int .i64 tt.s, .int .i64 tt.c, .int .i64 tt.i, .int .i64 tt.k, .slice (some ⟨w.heap.size + 1, 0, none⟩) 1 1, .int .i64 0, .int .i64 0, .int .i64 0, .int .i64 0, .slice none 0 0, .int .i64 bottomL.s, .int .i64 bottomL.c, .int .i64 bottomL.i, .int .i64 bottomL.k] rfl rfl ?_
              (try simp only [Act.put, sA, sB, sC])
              refine hK.out _ _ (hS3.then (alloc_below _ _)) ?_
              clear hHeld hK
              intro hHeld
              obtain ⟨vz, wz, hap, hoz, hgz⟩ := OwnR.push pn_ok ho3 hS3.sz ⟨dirN q tt, some ⟨w.heap.size + 1, 0, none⟩, 1, none, 0⟩ [.string (⟨#[47, 108]⟩ ++ chr (48 + q)), .bool true, .int .i64 tt.s, .int .i64 tt.c, .int .i64 tt.i, .int .i64 tt.k, .slice (some ⟨w.heap.size + 1, 0, none⟩) 1 1, .int .i64 0, .int .i64 0, .int .i64 0, .int .i64 0, .slice none 0 0, .int .i64 bottomL.s, .int .i64 bottomL.c, .int .i64 bottomL.i, .int .i64 bottomL.k].toArray (by rw [dir_cs]) 34 (by rw [firstP_len]; have := hdl j; omega)
              have hbz := ho3.grew_below hS3.sz hgz
              have hSz := hS3.grown hbz
              rw [← hfs.out] at hoz
              (try simp only [Act.put, sA, sB, sC])
              refine wpAnyH_ready (rs := [16]) (by kernel_rfl) (by simp) ?_
              refine AllReadyH.cons (by simp only [gA, gB, gC]; rfl) (fun K hK => ?_) AllReadyH.nil
              refine step_append rfl _ _ rfl rfl rfl rfl hap ?_
              (try simp only [Act.put, sA, sB, sC])
              refine hK.out _ _ (hSz) ?_
              clear hHeld hK
              intro hHeld
              (try simp only [Act.put, sA, sB, sC])
              refine wpAnyH_take (i := 17) (v := ?_) (by simp only [gA, gB, gC]; rfl) (by kernel_rfl) (by kernel_rfl) (by kernel_rfl) (by exact fun _ _ _ h => h) (Or.inl ⟨by rfl, ?_⟩) (by assumption) ?_; rotate_left; (focus (intro w hSw; (try dsimp only at hSw); go_simp; try with_reducible rfl)); (try simp only [Act.put, sA, sB, sC])
              refine wpAnyH_done (by kernel_rfl) ?_ _
              go_wp2_with fail
              exact ⟨⟨j + 1, by omega, by simp, q + 1, by simp, hqn, hSz, hoz⟩, by simp [Go.RowKit.intOf]; omega⟩
            refine AllReadyH.cons (by simp only [gA, gB, gC]; rfl) (fun K hK => ?_) AllReadyH.nil
            go_simp
            go_at_call 17
            refine (rlbottom_any _).mono ?_
            rintro e w1 ⟨rfl, hB⟩
            have hS1 := hS0.then hB
            have ho1 := ho0.below hB
            refine hK.out _ _ (hS1) ?_
            clear hHeld hK
            intro hHeld
            (try simp only [Act.put, sA, sB, sC])
            refine wpAnyH_ready (rs := [4]) (by kernel_rfl) (by simp) ?_
            refine AllReadyH.cons (by simp only [gA, gB, gC]; rfl) (fun K hK => ?_) AllReadyH.nil
            go_simp
            (try simp only [hwu2])
            refine hK.out _ _ (hS1.then (alloc_below _ _)) ?_
            clear hHeld hK
            intro hHeld
            have hbt := chr_made2 w1 q (by omega)
            have hS2 := hS1.then (alloc_below w1 (.cells #[.int .u8 (48 + (q : Int))] 5))
            have ho2 := ho1.below (alloc_below w1 (.cells #[.int .u8 (48 + (q : Int))] 5))
            generalize hwx : w1.alloc (.cells #[.int .u8 (48 + (q : Int))] 5) = w2 at *
            clear hwx
            generalize w1.heap.size = pb at *
            (try simp only [Act.put, sA, sB, sC])
            refine wpAnyH_ready (rs := [5]) (by kernel_rfl) (by simp) ?_
            refine AllReadyH.cons (by simp only [gA, gB, gC]; rfl) (fun K hK => ?_) AllReadyH.nil
            refine step_conv rfl _ rfl rfl hbt.conv ?_
            (try simp only [Act.put, sA, sB, sC])
            refine hK.out _ _ (hS2) ?_
            clear hHeld hK
            intro hHeld
            have hS3 := hS2
            have ho3 := ho2
            obtain ⟨w3, hww⟩ : ∃ w', w2 = w' := ⟨_, rfl⟩
            rw [hww] at hS3 ho3 hHeld ⊢
            clear hww
            (try simp only [Act.put, sA, sB, sC])
            refine wpAnyH_take (i := 6) (v := ?_) (by simp only [gA, gB, gC]; rfl) (by kernel_rfl) (by kernel_rfl) (by kernel_rfl) (by exact fun _ _ _ h => h) (Or.inl ⟨by rfl, ?_⟩) (by assumption) ?_; rotate_left; (focus (intro w hSw; (try dsimp only at hSw); go_simp; try with_reducible rfl)); (try simp only [Act.put, sA, sB, sC])
            refine wpAnyH_take (i := 14) (v := ?_) (by simp only [gA, gB, gC]; rfl) (by kernel_rfl) (by kernel_rfl) (by kernel_rfl) (by exact fun _ _ _ h => h) (Or.inl ⟨by rfl, ?_⟩) (by assumption) ?_; rotate_left; (focus (intro w hSw; (try dsimp only at hSw); go_simp; try with_reducible rfl)); (try simp only [Act.put, sA, sB, sC])
            refine wpAnyH_ready (rs := [15]) (by kernel_rfl) (by simp) ?_
            refine AllReadyH.cons (by simp only [gA, gB, gC]; rfl) (fun K hK => ?_) AllReadyH.nil
            refine step_build1 pn_ok (by decide) rfl _ rfl [.string (⟨#[47, 108]⟩ ++ chr (48 + q)), .bool true, .int .i64 tt.s, .int .i64 tt.c, .int .i64 tt.i, .int .i64 tt.k, .slice (some ⟨w.heap.size + 1, 0, none⟩) 1 1, .int .i64 0, .int .i64 0, .int .i64 0, .int .i64 0, .slice none 0 0, .int .i64 bottomL.s, .int .i64 bottomL.c, .int .i64 bottomL.i, .int .i64 bottomL.k] rfl rfl ?_
            (try simp only [Act.put, sA, sB, sC])
            refine hK.out _ _ (hS3.then (alloc_below _ _)) ?_
            clear hHeld hK
            intro hHeld
            obtain ⟨vz, wz, hap, hoz, hgz⟩ := OwnR.push pn_ok ho3 hS3.sz ⟨dirN q tt, some ⟨w.heap.size + 1, 0, none⟩, 1, none, 0⟩ [.string (⟨#[47, 108]⟩ ++ chr (48 + q)), .bool true, .int .i64 tt.s, .int .i64 tt.c, .int .i64 tt.i, .int .i64 tt.k, .slice (some ⟨w.heap.size + 1, 0, none⟩) 1 1, .int .i64 0, .int .i64 0, .int .i64 0, .int .i64 0, .slice none 0 0, .int .i64 bottomL.s, .int .i64 bottomL.c, .int .i64 bottomL.i, .int .i64 bottomL.k].toArray (by rw [dir_cs]) 34 (by rw [firstP_len]; have := hdl j; omega)
            have hbz := ho3.grew_below hS3.sz hgz
            have hSz := hS3.grown hbz
            rw [← hfs.out] at hoz
            (try simp only [Act.put, sA, sB, sC])
            refine wpAnyH_ready (rs := [16]) (by kernel_rfl) (by simp) ?_
            refine AllReadyH.cons (by simp only [gA, gB, gC]; rfl) (fun K hK => ?_) AllReadyH.nil
            refine step_append rfl _ _ rfl rfl rfl rfl hap ?_
            (try simp only [Act.put, sA, sB, sC])
            refine hK.out _ _ (hSz) ?_
            clear hHeld hK
            intro hHeld
            (try simp only [Act.put, sA, sB, sC])
            refine wpAnyH_take (i := 17) (v := ?_) (by simp only [gA, gB, gC]; rfl) (by kernel_rfl) (by kernel_rfl) (by kernel_rfl) (by exact fun _ _ _ h => h) (Or.inl ⟨by rfl, ?_⟩) (by assumption) ?_; rotate_left; (focus (intro w hSw; (try dsimp only at hSw); go_simp; try with_reducible rfl)); (try simp only [Act.put, sA, sB, sC])
            refine wpAnyH_done (by kernel_rfl) ?_ _
            go_wp2_with fail
            exact ⟨⟨j + 1, by omega, by simp, q + 1, by simp, hqn, hSz, hoz⟩, by simp [Go.RowKit.intOf]; omega⟩
          · replace hfs := hfs.out
            replace hds := hds.out
            rw [hb, if_pos rfl] at hfs hds
            have hqn : Aside (q = (distTo ts (j + 1)).length) := by rw [hq.out]; exact hds.symm
            rw [← hfs] at ho2
            clear hfs hds
            go_wp2_with fail
            exact ⟨⟨j + 1, by omega, by simp, q, rfl, hqn, hS2, ho2⟩, by simp [Go.RowKit.intOf]; omega⟩
    · obtain rfl : i = n := by omega
      go_wp2_with fail
      go_ret
      exact ⟨_, rfl, ho.lower (by omega), hS.all, hS.bl⟩
end Go.Proofs.YtapgjdmnlkedgabDoor

/-! THE LAWS' SMALL FUNCTIONS (chapter 13): within, Who, known. -/
namespace Go.Proofs.YtapgjdmnlkedgabDoor
open Go.RowKit
set_option maxRecDepth 8000
set_option linter.unusedSimpArgs false
set_option linter.unusedVariables false

set_option maxHeartbeats 400000 in
theorem w13_any (k m : Int) (h0 : 0 < m) (h1 : m < 1000000) (w : World) :
    Calls Tryd.prog 7 #[.int .i64 k, .int .i64 m] w fun e w' => e = .returned (.int .i64 (k % m)) ∧ w' = w := by
  have b1 := Int.lt_tmod_of_pos k h0
  have b2 := Int.tmod_lt_of_pos k h0
  have hm0 : ¬ m = 0 := by omega
  have hm1 : ¬ m = -1 := by omega
  by_cases hn : k.tmod m < 0
  · have e1 : k % m = k.tmod m + m := by
      rw [Int.tmod_eq_emod] at hn ⊢
      split at hn
      · have := Int.emod_nonneg k (by omega : m ≠ 0); omega
      · rename_i hc; rw [if_neg hc]; rw [Int.natAbs_of_nonneg (by omega)]; omega
    rw [e1]
    clear e1
    go_enter Tryd.func7, Tryd.ntmps7
    go_wp2
    go_ret
    exact ⟨rfl, rfl⟩
  · have e1 : k % m = k.tmod m := by
      rw [Int.tmod_eq_emod] at hn ⊢
      split
      · simp
      · rename_i hc
        rw [if_neg hc] at hn
        have := Int.emod_lt_of_pos k h0
        rw [Int.natAbs_of_nonneg (by omega)] at *
        omega
    rw [e1]
    clear e1
    go_enter Tryd.func7, Tryd.ntmps7
    go_wp2
    go_ret
    exact ⟨rfl, rfl⟩
def whoS (k : Int) : ByteArray := chr (97 + (k % 5).toNat)
set_option maxHeartbeats 1000000 in
theorem who_any (k : Int) (w : World) : Calls Tryd.prog 8 #[.int .i64 k] w fun e w' => e = .returned (.string (whoS k)) ∧ Below w.heap.size w w' := by
  obtain ⟨n, hn, hn5⟩ : ∃ n : Nat, k % 5 = (n : Int) ∧ n < 5 := ⟨(k % 5).toNat, by omega, by omega⟩
  have kw := w13_any k 5 (by decide) (by decide) w
  rw [hn] at kw
  have hwho : whoS k = chr (97 + n) := by unfold whoS; rw [hn]; rfl
  rw [hwho]
  have hbt := chr_made w (97 + n) (by omega)
  rw [show ((97 + n : Nat) : Int) = 97 + (n : Int) by omega] at hbt
  have hcv := hbt.conv
  have e1 : IntKind.u8.wrap (97 + (n : Int)) = 97 + (n : Int) := by rw [IntKind.wrap_u8]; omega
  have hB := alloc_below w (.cells #[.int .u8 (97 + (n : Int))] 5)
  clear hn hwho hbt
  go_enter Tryd.func8, Tryd.ntmps8
  go_wp2_with fail
  refine kw.mono ?_
  rintro e w' ⟨rfl, hw'⟩
  replace hw' := hw'.symm
  subst hw'
  go_wp2_with fail
  go_ret
  exact ⟨rfl, hB⟩
/-! The chapter's example. -/
def knL : Lab := ⟨1, 0, 3, 255⟩
theorem kn_GL : GL knL := by constructor <;> decide
theorem kn_tree : Tree (firstN [knL]) := first_tree (fun t ht => by rw [List.mem_singleton] at ht; rw [ht]; exact kn_GL) (by decide)
theorem kn_see : seeE (firstN [knL]) bottomL ⟨#[47, 108, 48, 47, 120]⟩ = 15 := by decide +kernel
theorem kn_may : mayE (firstN [knL]) ⟨#[97]⟩ bottomL ⟨#[47, 108, 48]⟩ 1 = 15 := by decide +kernel
theorem kn_see2 : seeE (firstN [knL]) bottomL ⟨#[47, 108, 48]⟩ = 0 := by decide +kernel
theorem kn_told : (toldN (firstN [knL]) ⟨#[47, 108, 48]⟩ 0).path = ⟨#[47, 108, 48]⟩ := by decide +kernel
theorem rlbotM_any (w : World) :
    Calls Tryd.prog 17 #[] w fun e w' => e = .returned bottomL.v ∧ Below w.heap.size w w' := by
  go_enter Tryd.func17, Tryd.ntmps17
  go_wp2
  refine bodyPost_ret (v := bottomL.v) (by simp [results, Tryd.results17, go_sem, bottomL]) rfl ⟨rfl, (Below.refl _ _).alloc (Nat.le_refl _) _⟩
set_option maxRecDepth 20000 in
set_option maxHeartbeats 4000000 in
theorem mknown_any (K : MonOk) (w : World) (hV : MaxV w) : Calls Tryd.prog 5 #[] w fun e w' => e = .returned (.bool true) ∧ Below w.heap.size w w' := by
  have hund := Tryd.underlying34
  have hundM := Tryd.underlying38
  have hszN : (Tryd.prog.info? 34).map (·.size) = some 16 := by kernel_rfl
  have hsm : (Tryd.prog.info? 38).map (·.size) = some 5 := by kernel_rfl
  have hrow := row_made lab_ok.len w knL #[.int .i64 1, .int .i64 0, .int .i64 3, .int .i64 255] rfl 28
  have hB0 := alloc_below w (.cells #[.int .i64 1, .int .i64 0, .int .i64 3, .int .i64 255] 28)
  have kf := rfirstT_any (some ⟨w.heap.size, 0, none⟩) 1 [knL] none none 0 0 0 0 (by decide) _ hrow
  obtain ⟨W0, hW0⟩ : ∃ W0, w.alloc (.cells #[.int .i64 1, .int .i64 0, .int .i64 3, .int .i64 255] 28) = W0 := ⟨_, rfl⟩
  rw [hW0] at kf hB0
  replace kf : Calls Tryd.prog 16 #[.agg #[.slice (some ⟨w.heap.size, 0, none⟩) 1 1, .slice none 0 0, .slice none 0 0]] W0 _ := kf
  clear hrow
  go_enter Tryd.func5, Tryd.ntmps5
  go_wp2_with fail
  refine kf.mono ?_
  rintro e W1 ⟨v, rfl, ho, hg, hB1⟩
  obtain ⟨ag, hag⟩ : ∃ ag, (some ⟨W0.heap.size + 1, 0, none⟩ : Option Addr) = ag := ⟨_, rfl⟩
  rw [hag] at ho hg
  obtain ⟨L, hL⟩ : ∃ L, firstP [knL] 1 ag = L := ⟨_, rfl⟩
  have hLn : namesP L = firstN [knL] := by rw [← hL, firstP_names]; rfl
  have hLl : L.length = 2 := by rw [← hL, firstP_len]; decide +kernel
  have hLa : ∀ {W : World}, Below W1.heap.size W1 W → ∀ x ∈ L, x.At W := fun {W} hb x hx => by
    rw [← hL] at hx
    obtain ⟨d, hd, rfl⟩ := List.mem_map.1 hx
    have hda : d.acl = allG ∧ d.words = [] := by
      rcases first_mem hd with rfl | ⟨k, t, _, _, rfl⟩
      · exact ⟨rfl, rfl⟩
      · exact ⟨rfl, rfl⟩
    refine ⟨?_, ?_⟩
    · show GrsAt W ag d.acl
      rw [hda.1]
      exact hg.below hb
    · show WrdsAt W none d.words
      rw [hda.2]
      exact fun j q hq => by simp at hq
  replace ho : OwnN W1 W0.heap.size v L := by rw [← hL]; exact ho
  obtain ⟨a, c, rfl, _, _, hr⟩ := OwnR.slice pn_len ho
  rw [hLl]
  have hF : FineL L := ⟨by rw [hLl]; decide, by rw [hLn]; exact kn_tree.ord, fun x hx => kn_tree.ok x.n (by rw [← hLn]; exact List.mem_map.2 ⟨x, hx, rfl⟩)⟩
  have hR : ∀ {W : World}, Below W1.heap.size W1 W → RowN W a L := fun {W} hb => ⟨hr.below pn_len hb, hLa hb⟩
  have hB01 := Below.then hB0 hB1
  clear kf ho hg hL hag hB0 hB1 hLa hr hW0
  go_wp2_with fail
  refine (rlbotM_any W1).mono ?_
  rintro e W2 ⟨rfl, hB2⟩
  have hbs := blkl_alloc W2 #[.string ⟨#[97]⟩, .int .i64 bottomL.s, .int .i64 bottomL.c, .int .i64 bottomL.i, .int .i64 bottomL.k] 38
  have hB3 := alloc_below W2 (.cells #[.string ⟨#[97]⟩, .int .i64 bottomL.s, .int .i64 bottomL.c, .int .i64 bottomL.i, .int .i64 bottomL.k] 38)
  obtain ⟨W3, hW3⟩ : ∃ W3, W2.alloc (.cells #[.string ⟨#[97]⟩, .int .i64 bottomL.s, .int .i64 bottomL.c, .int .i64 bottomL.i, .int .i64 bottomL.k] 38) = W3 := ⟨_, rfl⟩
  rw [hW3] at hbs hB3
  replace hbs : BlkL W2.heap.size (sbL ⟨#[97]⟩ bottomL) W3 := hbs
  have hB13 := Below.then hB2 hB3
  have hBw3 := Below.then hB01 hB13
  have hrs := hbs.range
  have k1 := K.see a c L ⟨#[97]⟩ bottomL ⟨#[47, 108, 48, 47, 120]⟩ hF bottom_GL (by decide) W3 (hR hB13) (hV.below hBw3)
  rw [hLn, kn_see, hLl] at k1
  go_upto_region 3 with fail
  (try rw [hW3])
  generalize W2.heap.size = bs at *
  go_wp2_with (first | (refine wpList_load_row rfl _ rfl bs rfl (sbL ⟨#[97]⟩ bottomL) hrs hundM rfl hsm ?_) | fail)
  refine k1.mono ?_
  rintro e W4 ⟨f1, rfl, -, -, hB4⟩
  obtain ⟨U1, hU1, hth1, hbk1, hC1⟩ := put_new W4 zN 34 f1.cs (by rw [pn_len]; rfl) (by rw [pn_len]; omega)
  have hsz1 : (Tryd.prog.info? 34).map (·.size) = some f1.cs.length := by rw [pn_len]; exact hszN
  have hD1 := Below.then hB4 hC1
  have hBa := Below.then hB13 hD1
  have hBwa := Below.then hBw3 hD1
  have hbs1 := stab_blk _ _ _ _ hbs hD1
  have hrs1 := hbs1.range
  have k2 := K.may a c L ⟨#[97]⟩ bottomL ⟨#[47, 108, 48]⟩ 1 hF bottom_GL (by decide) U1 (hR hBa) (hV.below hBwa)
  rw [hLn, kn_may, hLl] at k2
  clear k1 hrs hbs hB4 hC1 hbk1
  go_wp2_with (first | (refine wpList_store_row rfl _ _ rfl W4.heap.size rfl f1.cs rfl hth1 hsz1 (pn_one f1) hU1 ?_) | (refine wpList_load_row rfl _ rfl bs rfl (sbL ⟨#[97]⟩ bottomL) hrs1 hundM rfl hsm ?_) | fail)
  refine k2.mono ?_
  rintro e W5 ⟨f2, rfl, -, -, hB5⟩
  obtain ⟨U2, hU2, hth2, hbk2, hC2⟩ := put_new W5 zN 34 f2.cs (by rw [pn_len]; rfl) (by rw [pn_len]; omega)
  have hsz2 : (Tryd.prog.info? 34).map (·.size) = some f2.cs.length := by rw [pn_len]; exact hszN
  have hD2 := Below.then hB5 hC2
  have hBb := Below.then hBa hD2
  have hBwb := Below.then hBwa hD2
  have hbs2 := stab_blk _ _ _ _ hbs1 hD2
  have hrs2 := hbs2.range
  have k3 := K.see a c L ⟨#[97]⟩ bottomL ⟨#[47, 108, 48]⟩ hF bottom_GL (by decide) U2 (hR hBb) (hV.below hBwb)
  rw [hLn, kn_see2, hLl] at k3
  clear k2 hrs1 hbs1 hB5 hC2 hbk2 hth1 hU1
  go_wp2_with (first | (refine wpList_store_row rfl _ _ rfl W5.heap.size rfl f2.cs rfl hth2 hsz2 (pn_one f2) hU2 ?_) | (refine wpList_load_row rfl _ rfl bs rfl (sbL ⟨#[97]⟩ bottomL) hrs2 hundM rfl hsm ?_) | fail)
  refine k3.mono ?_
  rintro e W6 ⟨f3, rfl, hf3, -, hB6⟩
  obtain ⟨U3, hU3, hth3, hbk3, hC3⟩ := put_new W6 zN 34 f3.cs (by rw [pn_len]; rfl) (by rw [pn_len]; omega)
  have hsz3 : (Tryd.prog.info? 34).map (·.size) = some f3.cs.length := by rw [pn_len]; exact hszN
  have hfin := Below.then hBwb (Below.then hB6 hC3)
  have hz0 := (hbk3.1 0 _ rfl).1
  rw [show f3.n.path = ⟨#[47, 108, 48]⟩ from by rw [hf3]; exact kn_told] at hz0
  clear k3 hrs2 hbs2 hB6 hC3 hbk3 hth2 hU2 hf3
  go_wp2_with (first | (refine wpList_store_row rfl _ _ rfl W6.heap.size rfl f3.cs rfl hth3 hsz3 (pn_one f3) hU3 ?_) | fail)
  go_ret
  exact ⟨rfl, hfin⟩
end Go.Proofs.YtapgjdmnlkedgabDoor

/-! ARGUMENTS OPENED, FOR WHATEVER TYPES: a struct's fields, a row of elements, each read by a reader of its own. -/
namespace Go.Proofs.YtapgjdmnlkedgabDoor
open Go.ChangeShapes Go.WideShapes Go.ChangeAt Go.RowKit
set_option maxRecDepth 8000
set_option linter.unusedVariables false
set_option linter.unusedSimpArgs false

theorem own : ownKnob Tryd.prog.godebug = none := by kernel_rfl
theorem laidOut : laidOutB Tryd.prog = true := by kernel_rfl
theorem int_fits {n : Int} (h : (Lit.int .i64 n).wf = true) : -9223372036854775808 ≤ n ∧ n ≤ 9223372036854775807 := by
  simpa [Lit.wf, IntKind.min, IntKind.max, IntKind.bits, IntKind.signed] using h
theorem nat_u64 {n : Int} (h : (Lit.int .u64 n).wf = true) : ∃ k : Nat, n = (k : Int) ∧ k < 18446744073709551616 := by
  have : 0 ≤ n ∧ n ≤ 18446744073709551615 := by simpa [Lit.wf, IntKind.min, IntKind.max, IntKind.bits, IntKind.signed] using h
  exact ⟨n.toNat, by omega, by omega⟩
theorem nat_u8 {n : Int} (h : (Lit.int .u8 n).wf = true) : ∃ k : Nat, n = (k : Int) ∧ k < 256 := by
  have : 0 ≤ n ∧ n ≤ 255 := by simpa [Lit.wf, IntKind.min, IntKind.max, IntKind.bits, IntKind.signed] using h
  exact ⟨n.toNat, by omega, by omega⟩
section
variable {H : Type} {enc : TypeId × Value → H} {W : World} {base : Nat} {sp : Nat → Bool} {held : Bool}
/-- What a reading of a type tells of its cells. -/
def Reads (enc : TypeId × Value → H) (W : World) (base : Nat) (sp : Nat → Bool) (held : Bool) (t : TypeId) (p : List Value → Prop) : Prop := ∀ (n : Nat) (cs : List Value) (x : DataW H × List MemPlace), DataW.trod enc Tryd.prog W base sp held n t cs = some x → p cs
theorem reads_int {t : TypeId} {k : IntKind} (ht : Tryd.prog.underlying t = some (.int k)) : Reads enc W base sp held t fun cs => ∃ n, cs = [.int k n] ∧ (Lit.int k n).wf = true := fun n cs x h => by
  obtain ⟨m, rfl, _, hw⟩ := DataW.trod_int ht h
  exact ⟨m, rfl, hw⟩
theorem reads_bool {t : TypeId} (ht : Tryd.prog.underlying t = some .bool) : Reads enc W base sp held t fun cs => ∃ b, cs = [.bool b] := fun n cs x h => by
  obtain ⟨b, rfl, _⟩ := DataW.trod_bool ht h
  exact ⟨b, rfl⟩
theorem reads_string {t : TypeId} (ht : Tryd.prog.underlying t = some .string) : Reads enc W base sp held t fun cs => ∃ s : ByteArray, cs = [.string s] ∧ s.size ≤ 9223372036854775807 := fun n cs x h => by
  obtain ⟨s, rfl, _, hs⟩ := DataW.trod_string ht h
  exact ⟨s, rfl, by simpa [maxLen] using hs⟩
/-- A field of a struct. -/
theorem read_field {t ty : TypeId} {i off sz : Nat} {p : List Value → Prop} (ht : Tryd.prog.underlying t = some (.struct (Tryd.prog.fieldsOf t))) (hf : ((Tryd.prog.fieldsOf t)[i]?).map (fun f => (f.type, f.offset)) = some (ty, off)) (hc : Tryd.prog.cellsOf ty = sz) (hp : Reads enc W base sp held ty p) {n : Nat} {cs : List Value} {x : DataW H × List MemPlace} (h : DataW.trod enc Tryd.prog W base sp held n t cs = some x) : p ((cs.drop off).take sz) := by
  obtain ⟨xs, m, _, _, _, hlen, hg⟩ := DataW.trod_struct ht h
  cases hfi : (Tryd.prog.fieldsOf t)[i]? with
  | none => rw [hfi] at hf; cases hf
  | some f =>
    rw [hfi] at hf
    have e : (f.type, f.offset) = (ty, off) := by simpa using hf
    have e1 : f.type = ty := congrArg Prod.fst e
    have e2 : f.offset = off := congrArg Prod.snd e
    have hh := hg i f hfi
    have hi : i < xs.length := by
      have := (Array.getElem?_eq_some_iff.1 hfi).1
      omega
    rw [List.getElem?_eq_getElem hi, e1, e2, hc] at hh
    exact hp _ _ _ hh
theorem struct_len {t : TypeId} {sz : Nat} (ht : Tryd.prog.underlying t = some (.struct (Tryd.prog.fieldsOf t))) (hc : Tryd.prog.cellsOf t = sz) {n : Nat} {cs : List Value} {x : DataW H × List MemPlace} (h : DataW.trod enc Tryd.prog W base sp held n t cs = some x) : cs.length = sz := by
  obtain ⟨xs, m, _, _, hl, _⟩ := DataW.trod_struct ht h
  rw [hl, hc]
theorem pick_all {α : Type} {len : Nat} {p : Nat → α → Prop} (h : ∀ i, i < len → ∃ g, p i g) : ∃ l : List α, l.length = len ∧ ∀ j g, l[j]? = some g → p j g := by
  by_cases h0 : len = 0
  · subst h0
    exact ⟨[], rfl, fun j g q => by cases q⟩
  haveI : Inhabited α := ⟨(h 0 (by omega)).choose⟩
  have h' : ∀ i, ∃ g, i < len → p i g := fun i => by
    by_cases hi : i < len
    · obtain ⟨g, hg⟩ := h i hi; exact ⟨g, fun _ => hg⟩
    · exact ⟨default, fun k => absurd k hi⟩
  obtain ⟨f, hf⟩ := Classical.axiomOfChoice h'
  refine ⟨(List.range len).map f, by simp, fun j g hg => ?_⟩
  have hj : j < len := by
    have := (List.getElem?_eq_some_iff.1 hg).1
    simpa using this
  simp [List.getElem?_range hj] at hg
  subst hg
  exact hf j hj
/-- A row of elements. -/
theorem open_rows {α : Type} {t e : TypeId} {sz : Nat} {f : α → List Value} {q : α → Prop} (ht : Tryd.prog.underlying t = some (.slice e)) (hc : Tryd.prog.cellsOf e = sz) (hp : Reads enc W 0 (fun _ => true) true e fun cs => ∃ g, cs = f g ∧ q g) {n : Nat} {a : Option Addr} {len cap : Nat} {x : DataW H × List MemPlace} (h : DataW.trod enc Tryd.prog W 0 (fun _ => true) true n t [.slice a len cap] = some x) :
    ∃ l : List α, l.length = len ∧ (∀ j g, l[j]? = some g → ∃ y, a = some y ∧ (∀ i, i < sz → W.cell? (y.add (j * sz + i)) = (f g)[i]?)) ∧ (∀ g ∈ l, q g) ∧ (a = none → cap = 0) ∧ len ≤ cap ∧ cap ≤ 9223372036854775807 := by
  rcases Go.Deep.open_slice ht h with ⟨hcs, _⟩ | ⟨ad, l, c, m, n', Dd, Pl, hcs, _, hl, hm, hmm, _, hx⟩
  · simp at hcs
    obtain ⟨rfl, rfl, rfl⟩ := hcs
    exact ⟨[], rfl, fun j g hg => by simp at hg, by simp, fun _ => rfl, Nat.le_refl _, by omega⟩
  · simp at hcs
    obtain ⟨rfl, rfl, rfl⟩ := hcs
    simp only [if_true] at hmm
    have each : ∀ i, i < len → ∃ g : α, (∀ k, k < sz → W.cell? (ad.add (i * sz + k)) = (f g)[k]?) ∧ q g := fun i hi => by
      obtain ⟨cs', h2, h3⟩ := hx i (by omega)
      rw [hc] at h2
      obtain ⟨_, hlen, hcell⟩ := World.cells?_some h2
      obtain ⟨g, rfl, hq⟩ := hp _ _ _ h3
      refine ⟨g, fun k hk => ?_, hq⟩
      have e0 := hcell k (by omega)
      rw [Go.Deep.add_add] at e0
      rw [e0]
    obtain ⟨L, hL, hpp⟩ := pick_all each
    refine ⟨L, hL, fun j g hg => ⟨ad, rfl, (hpp j g hg).1⟩, fun g hg => ?_, fun h => (by cases h), hl, by simpa [maxLen] using hm⟩
    obtain ⟨j, hj, rfl⟩ := List.getElem_of_mem hg
    exact (hpp j L[j] (List.getElem?_eq_getElem hj)).2
end
end Go.Proofs.YtapgjdmnlkedgabDoor

/-! STRUCTS THAT CAME IN, WHATEVER THEIR NUMBER OF CELLS; labels. For every stage from the tenth on. -/
namespace Go.Proofs.YtapgjdmnlkedgabDoor
open Go.ChangeShapes Go.WideShapes Go.ChangeAt Go.RowKit
set_option maxRecDepth 8000
set_option linter.unusedVariables false
set_option linter.unusedSimpArgs false

def lcells (l : Lab) : List Value := [.int .i64 l.s, .int .i64 l.c, .int .i64 l.i, .int .i64 l.k]
def fitsI (n : Int) : Prop := -9223372036854775808 ≤ n ∧ n ≤ 9223372036854775807
def Lab.fits (l : Lab) : Prop := fitsI l.s ∧ fitsI l.c ∧ fitsI l.i ∧ fitsI l.k
theorem cInt : Tryd.prog.cellsOf 3 = 1 := by kernel_rfl
theorem cStr : Tryd.prog.cellsOf 9 = 1 := by kernel_rfl
theorem cBool : Tryd.prog.cellsOf 4 = 1 := by kernel_rfl
theorem cLab : Tryd.prog.cellsOf 28 = 4 := by kernel_rfl
/-- A struct as a parameter: its cells, and how they read. -/
theorem open_struct {H : Type} {enc : TypeId × Value → H} {W : World} {r : Reach} {b0 base : Nat} {sp : Nat → Bool} {held : Bool} {t : TypeId} {fs : Array Field} {v : Value} {d : DataW H} {p : List MemPlace} {q : List Value → Prop} (hs : Tryd.prog.underlying t = some (.struct fs)) (hq : Reads enc W base sp held t q)
    (hv : Value.okWide Tryd.prog W r b0 t v) (h : DataW.Trod enc Tryd.prog W base sp held t v d p) : ∃ cs : List Value, v = .agg cs.toArray ∧ q cs := by
  obtain ⟨cs, rfl, hsz⟩ := okWide_struct hs hv
  obtain ⟨fuel, hf⟩ := h
  exact ⟨cs.toList, by simp, hq fuel cs.toList (d, p) hf⟩
section
variable {H : Type} {enc : TypeId × Value → H} {W : World} {base : Nat} {sp : Nat → Bool} {held : Bool}
theorem reads_lab : Reads enc W base sp held 28 fun cs => ∃ l, cs = lcells l ∧ l.fits := fun n cs x h => by
  have hl := struct_len und cLab h
  obtain ⟨s, e0, w0⟩ := read_field (i := 0) (ty := 3) (off := 0) und (by kernel_rfl) cInt (reads_int Tryd.underlying3) h
  obtain ⟨c, e1, w1⟩ := read_field (i := 1) (ty := 3) (off := 1) und (by kernel_rfl) cInt (reads_int Tryd.underlying3) h
  obtain ⟨i, e2, w2⟩ := read_field (i := 2) (ty := 3) (off := 2) und (by kernel_rfl) cInt (reads_int Tryd.underlying3) h
  obtain ⟨k, e3, w3⟩ := read_field (i := 3) (ty := 3) (off := 3) und (by kernel_rfl) cInt (reads_int Tryd.underlying3) h
  match cs, hl with
  | [v0, v1, v2, v3], _ =>
    simp at e0 e1 e2 e3
    subst e0 e1 e2 e3
    exact ⟨⟨s, c, i, k⟩, rfl, int_fits w0, int_fits w1, int_fits w2, int_fits w3⟩
end
/-- A row within a struct. -/
theorem reads_rows {α : Type} {H : Type} {enc : TypeId × Value → H} {W : World} {t e : TypeId} {sz : Nat} {f : α → List Value} {q : α → Prop} (ht : Tryd.prog.underlying t = some (.slice e)) (hc : Tryd.prog.cellsOf e = sz) (hp : Reads enc W 0 (fun _ => true) true e fun cs => ∃ g, cs = f g ∧ q g) (hone : Tryd.prog.cellsOf t = 1) :
    Reads enc W 0 (fun _ => true) true t fun cs => ∃ (l : List α) (a : Option Addr) (cap : Nat), cs = [.slice a l.length cap] ∧ (∀ j g, l[j]? = some g → ∃ y, a = some y ∧ (∀ i, i < sz → W.cell? (y.add (j * sz + i)) = (f g)[i]?)) ∧ (∀ g ∈ l, q g) ∧ (a = none → cap = 0) ∧ l.length ≤ cap := fun n cs x h => by
  have h' := h
  rcases Go.Deep.open_slice ht h with ⟨hcs, _⟩ | ⟨ad, l, c', m, n', Dd, Pl, hcs, _⟩
  · subst hcs
    obtain ⟨L, hL, h1, h2, h3, h4, _⟩ := open_rows (f := f) (q := q) ht hc hp h'
    exact ⟨L, _, _, by rw [hL], h1, h2, h3, by omega⟩
  · subst hcs
    obtain ⟨L, hL, h1, h2, h3, h4, _⟩ := open_rows (f := f) (q := q) ht hc hp h'
    exact ⟨L, _, _, by rw [hL], h1, h2, h3, by omega⟩
end Go.Proofs.YtapgjdmnlkedgabDoor

/-! NODES AND BRACKETS THAT CAME IN (door seats). Written by mk_ndoor.py. -/
namespace Go.Proofs.YtapgjdmnlkedgabDoor
open Go.ChangeShapes Go.WideShapes Go.ChangeAt Go.RowKit
set_option maxRecDepth 8000
set_option linter.unusedVariables false
set_option linter.unusedSimpArgs false

def gcells (g : Gr) : List Value := [.string g.u, .int .i64 g.m]
def wcell (x : Int) : List Value := [.int .i64 x]
theorem RowAt.grs {W : World} {a : Option Addr} {l : List Gr} (h : RowAt 2 gcells W a l) : GrsAt W a l := fun j q hq => by
  obtain ⟨y, hy, hc⟩ := h j q hq
  refine ⟨y, hy, hc 0 (by omega), ?_⟩
  have := hc 1 (by omega)
  rw [add_off _ _ _ (by omega)] at this
  exact this
theorem RowAt.wrds {W : World} {a : Option Addr} {l : List Int} (h : RowAt 1 wcell W a l) : WrdsAt W a l := fun j q hq => by
  obtain ⟨y, hy, hc⟩ := h j q hq
  have := hc 0 (by omega)
  rw [Nat.mul_one, Nat.add_zero] at this
  exact ⟨y, hy, this⟩
theorem undGr : Tryd.prog.underlying 74 = some (.struct (Tryd.prog.fieldsOf 74)) := by kernel_rfl
theorem undRi : Tryd.prog.underlying 31 = some (.struct (Tryd.prog.fieldsOf 31)) := by kernel_rfl
theorem undNd : Tryd.prog.underlying 34 = some (.struct (Tryd.prog.fieldsOf 34)) := by kernel_rfl
theorem cGr : Tryd.prog.cellsOf 74 = 2 := by kernel_rfl
theorem cRi : Tryd.prog.cellsOf 31 = 4 := by kernel_rfl
theorem cNd : Tryd.prog.cellsOf 34 = 16 := by kernel_rfl
theorem cI64 : Tryd.prog.cellsOf 2 = 1 := by kernel_rfl
theorem cGrs : Tryd.prog.cellsOf 29 = 1 := by kernel_rfl
theorem cWds : Tryd.prog.cellsOf 32 = 1 := by kernel_rfl
/-- What a node that came in keeps to. -/
structure Nod.Fits (n : Nod) : Prop where
  p : n.path.size ≤ 9223372036854775807
  g : ∀ g ∈ n.acl, g.u.size ≤ 9223372036854775807
  w : ∀ x ∈ n.words, -9223372036854775808 ≤ x ∧ x ≤ 9223372036854775807
section
variable {H : Type} {enc : TypeId × Value → H} {W : World}
theorem reads_gr {base : Nat} {sp : Nat → Bool} {held : Bool} : Reads enc W base sp held 74 fun cs => ∃ g, cs = gcells g ∧ g.u.size ≤ 9223372036854775807 := fun n cs x h => by
  have hl := struct_len undGr cGr h
  obtain ⟨u, e0, w0⟩ := read_field (i := 0) (ty := 9) (off := 0) undGr (by kernel_rfl) cStr (reads_string Tryd.underlying9) h
  obtain ⟨m, e1, w1⟩ := read_field (i := 1) (ty := 3) (off := 1) undGr (by kernel_rfl) cInt (reads_int Tryd.underlying3) h
  match cs, hl with
  | [v0, v1], _ =>
    simp at e0 e1
    subst e0 e1
    exact ⟨⟨u, m⟩, rfl, w0⟩
theorem reads_ri {base : Nat} {sp : Nat → Bool} {held : Bool} : Reads enc W base sp held 31 fun cs => ∃ a b c d : Int, cs = [.int .i64 a, .int .i64 b, .int .i64 c, .int .i64 d] := fun n cs x h => by
  have hl := struct_len undRi cRi h
  obtain ⟨s, e0, w0⟩ := read_field (i := 0) (ty := 3) (off := 0) undRi (by kernel_rfl) cInt (reads_int Tryd.underlying3) h
  obtain ⟨c, e1, w1⟩ := read_field (i := 1) (ty := 3) (off := 1) undRi (by kernel_rfl) cInt (reads_int Tryd.underlying3) h
  obtain ⟨i, e2, w2⟩ := read_field (i := 2) (ty := 3) (off := 2) undRi (by kernel_rfl) cInt (reads_int Tryd.underlying3) h
  obtain ⟨k, e3, w3⟩ := read_field (i := 3) (ty := 3) (off := 3) undRi (by kernel_rfl) cInt (reads_int Tryd.underlying3) h
  match cs, hl with
  | [v0, v1, v2, v3], _ =>
    simp at e0 e1 e2 e3
    subst e0 e1 e2 e3
    exact ⟨s, c, i, k, rfl⟩
theorem reads_wd {base : Nat} {sp : Nat → Bool} {held : Bool} : Reads enc W base sp held 2 fun cs => ∃ x : Int, cs = wcell x ∧ (-9223372036854775808 ≤ x ∧ x ≤ 9223372036854775807) := fun n cs x h => by
  obtain ⟨m, e, hw⟩ := reads_int Tryd.underlying2 n cs x h
  exact ⟨m, e, int_fits hw⟩
theorem reads_nd : Reads enc W 0 (fun _ => true) true 34 fun cs => ∃ (n : Nod) (aa : Option Addr) (ca : Nat) (wa : Option Addr) (cw : Nat), .agg cs.toArray = n.v aa ca wa cw ∧ n.Fits ∧ GrsAt W aa n.acl ∧ WrdsAt W wa n.words ∧ (wa = none → cw = 0) ∧ n.words.length ≤ cw := fun fu cs x h => by
  have hl := struct_len undNd cNd h
  obtain ⟨pa, e0, w0⟩ := read_field (i := 0) (ty := 9) (off := 0) undNd (by kernel_rfl) cStr (reads_string Tryd.underlying9) h
  obtain ⟨di, e1⟩ := read_field (i := 1) (ty := 4) (off := 1) undNd (by kernel_rfl) cBool (reads_bool Tryd.underlying4) h
  obtain ⟨la, e2, _⟩ := read_field (i := 2) (ty := 28) (off := 2) undNd (by kernel_rfl) cLab reads_lab h
  obtain ⟨gs, aa, ca, e3, hg, hgq, _, _⟩ := read_field (i := 3) (ty := 29) (off := 6) undNd (by kernel_rfl) cGrs (reads_rows (f := gcells) Tryd.underlying29 cGr reads_gr cGrs) h
  obtain ⟨r1, r2, r3, r4, e4⟩ := read_field (i := 4) (ty := 31) (off := 7) undNd (by kernel_rfl) cRi reads_ri h
  obtain ⟨ws, wa, cw, e5, hv, hvq, hno, hle⟩ := read_field (i := 5) (ty := 32) (off := 11) undNd (by kernel_rfl) cWds (reads_rows (f := wcell) Tryd.underlying32 cI64 reads_wd cWds) h
  obtain ⟨lb, e6, _⟩ := read_field (i := 6) (ty := 28) (off := 12) undNd (by kernel_rfl) cLab reads_lab h
  match cs, hl with
  | [v0, v1, v2, v3, v4, v5, v6, v7, v8, v9, v10, v11, v12, v13, v14, v15], _ =>
    simp [lcells] at e0 e1 e2 e3 e4 e5 e6
    obtain ⟨rfl, rfl, rfl, rfl⟩ := e2
    obtain ⟨rfl, rfl, rfl, rfl⟩ := e4
    obtain ⟨rfl, rfl, rfl, rfl⟩ := e6
    subst e0 e1 e3 e5
    exact ⟨⟨pa, di, la, gs, r1, r2, r3, r4, ws, lb⟩, aa, ca, wa, cw, rfl, ⟨w0, hgq, hvq⟩, RowAt.grs hg, RowAt.wrds hv, hno, hle⟩
theorem open_nd {r : Reach} {b0 : Nat} {v : Value} {d : DataW H} {p : List MemPlace} (hv : Value.okWide Tryd.prog W r b0 34 v) (h : DataW.Trod enc Tryd.prog W 0 (fun _ => true) true 34 v d p) :
    ∃ (n : Nod) (aa : Option Addr) (ca : Nat) (wa : Option Addr) (cw : Nat), v = n.v aa ca wa cw ∧ n.Fits ∧ GrsAt W aa n.acl ∧ WrdsAt W wa n.words ∧ (wa = none → cw = 0) ∧ n.words.length ≤ cw := by
  obtain ⟨cs, rfl, n, aa, ca, wa, cw, he, hf, hg, hw, hz, hc⟩ := open_struct undNd reads_nd hv h
  exact ⟨n, aa, ca, wa, cw, he, hf, hg, hw, hz, hc⟩
theorem open_rg {r : Reach} {b0 base : Nat} {sp : Nat → Bool} {held : Bool} {v : Value} {d : DataW H} {p : List MemPlace} (hv : Value.okWide Tryd.prog W r b0 31 v) (h : DataW.Trod enc Tryd.prog W base sp held 31 v d p) : ∃ x : Rg, v = x.v := by
  obtain ⟨cs, rfl, a, b, c, e, he⟩ := open_struct undRi reads_ri hv h
  exact ⟨⟨a, b, c, e⟩, by rw [he]⟩
end
end Go.Proofs.YtapgjdmnlkedgabDoor

/-! NODES, LABELS AND WAYS TO MAKE NODES THAT CAME IN, in rows. -/
namespace Go.Proofs.YtapgjdmnlkedgabDoor
open Go.ChangeShapes Go.WideShapes Go.ChangeAt Go.RowKit
set_option maxRecDepth 8000
set_option linter.unusedVariables false
set_option linter.unusedSimpArgs false

def icell (x : Int) : List Value := [.int .i64 x]
/-- A way to make a node, and where its rows lie. -/
structure PM where
  m : Mk
  pa : Option Addr
  pc : Nat
  aa : Option Addr
  ca : Nat
  wa : Option Addr
  cw : Nat
def PM.cs (x : PM) : List Value := [.slice x.pa x.m.path.length x.pc, .bool x.m.dir, .int .i64 x.m.up.s, .int .i64 x.m.up.c, .int .i64 x.m.up.i, .int .i64 x.m.up.k, .slice x.aa x.m.acl.length x.ca, .int .i64 x.m.rings.a, .int .i64 x.m.rings.b, .int .i64 x.m.rings.c, .int .i64 x.m.rings.g, .slice x.wa x.m.words.length x.cw, .int .i64 x.m.by_.s, .int .i64 x.m.by_.c, .int .i64 x.m.by_.i, .int .i64 x.m.by_.k]
structure PM.At (W : World) (x : PM) : Prop where
  p : RowAt 1 icell W x.pa x.m.path
  g : GrsAt W x.aa x.m.acl
  w : WrdsAt W x.wa x.m.words
  f : ∀ q ∈ x.m.path, -9223372036854775808 ≤ q ∧ q ≤ 9223372036854775807
theorem PM.At.below {W W' : World} {x : PM} (h : x.At W) (b : Below W.heap.size W W') : x.At W' := ⟨h.p.below (fun _ => rfl) b, h.g.below b, h.w.below b, h.f⟩
structure RowM (W : World) (a : Option Addr) (l : List PM) : Prop where
  r : RowAt 16 PM.cs W a l
  p : ∀ x ∈ l, x.At W
theorem RowM.below {W W' : World} {a : Option Addr} {l : List PM} (h : RowM W a l) (b : Below W.heap.size W W') : RowM W' a l := ⟨h.r.below (fun _ => rfl) b, fun x hx => (h.p x hx).below b⟩
section
variable {H : Type} {enc : TypeId × Value → H} {W : World}
theorem undMk : Tryd.prog.underlying 58 = some (.struct (Tryd.prog.fieldsOf 58)) := by kernel_rfl
theorem cMk : Tryd.prog.cellsOf 58 = 16 := by kernel_rfl
theorem cInts : Tryd.prog.cellsOf 56 = 1 := by kernel_rfl
theorem reads_ic {base : Nat} {sp : Nat → Bool} {held : Bool} : Reads enc W base sp held 3 fun cs => ∃ x : Int, cs = icell x ∧ (-9223372036854775808 ≤ x ∧ x ≤ 9223372036854775807) := fun n cs x h => by
  obtain ⟨m, e, hw⟩ := reads_int Tryd.underlying3 n cs x h
  exact ⟨m, e, int_fits hw⟩
theorem reads_mk : Reads enc W 0 (fun _ => true) true 58 fun cs => ∃ x : PM, cs = x.cs ∧ x.At W := fun fu cs x h => by
  have hl := struct_len undMk cMk h
  obtain ⟨ps, pa, pc, e0, hp, hpq, _, _⟩ := read_field (i := 0) (ty := 56) (off := 0) undMk (by kernel_rfl) cInts (reads_rows (f := icell) Tryd.underlying56 cInt reads_ic cInts) h
  obtain ⟨di, e1⟩ := read_field (i := 1) (ty := 4) (off := 1) undMk (by kernel_rfl) cBool (reads_bool Tryd.underlying4) h
  obtain ⟨la, e2, _⟩ := read_field (i := 2) (ty := 28) (off := 2) undMk (by kernel_rfl) cLab reads_lab h
  obtain ⟨gs, aa, ca, e3, hg, hgq, _, _⟩ := read_field (i := 3) (ty := 29) (off := 6) undMk (by kernel_rfl) cGrs (reads_rows (f := gcells) Tryd.underlying29 cGr reads_gr cGrs) h
  obtain ⟨r1, r2, r3, r4, e4⟩ := read_field (i := 4) (ty := 31) (off := 7) undMk (by kernel_rfl) cRi reads_ri h
  obtain ⟨ws, wa, cw, e5, hv, hvq, hno, hle⟩ := read_field (i := 5) (ty := 32) (off := 11) undMk (by kernel_rfl) cWds (reads_rows (f := wcell) Tryd.underlying32 cI64 reads_wd cWds) h
  obtain ⟨lb, e6, _⟩ := read_field (i := 6) (ty := 28) (off := 12) undMk (by kernel_rfl) cLab reads_lab h
  match cs, hl with
  | [v0, v1, v2, v3, v4, v5, v6, v7, v8, v9, v10, v11, v12, v13, v14, v15], _ =>
    simp [lcells] at e0 e1 e2 e3 e4 e5 e6
    obtain ⟨rfl, rfl, rfl, rfl⟩ := e2
    obtain ⟨rfl, rfl, rfl, rfl⟩ := e4
    obtain ⟨rfl, rfl, rfl, rfl⟩ := e6
    subst e0 e1 e3 e5
    exact ⟨⟨⟨ps, di, la, gs, ⟨r1, r2, r3, r4⟩, ws, lb⟩, pa, pc, aa, ca, wa, cw⟩, rfl, ⟨hp, RowAt.grs hg, RowAt.wrds hv, hpq⟩⟩
theorem open_mks {n : Nat} {a : Option Addr} {len cap : Nat} {x : DataW H × List MemPlace} (h : DataW.trod enc Tryd.prog W 0 (fun _ => true) true n 23 [.slice a len cap] = some x) : ∃ l, l.length = len ∧ RowM W a l := by
  obtain ⟨l, hl, hc, hf, _⟩ := open_rows (f := PM.cs) (q := PM.At W) Tryd.underlying23 cMk reads_mk h
  exact ⟨l, hl, ⟨hc, hf⟩⟩
theorem reads_pn : Reads enc W 0 (fun _ => true) true 34 fun cs => ∃ x : PN, cs = x.cs ∧ (x.At W ∧ x.n.Fits) := fun fu cs x h => by
  obtain ⟨n, aa, ca, wa, cw, he, hf, hg, hw, _, _⟩ := reads_nd fu cs x h
  refine ⟨⟨n, aa, ca, wa, cw⟩, ?_, ⟨hg, hw⟩, hf⟩
  injection he with he
  have := congrArg Array.toList he
  simpa [PN.cs, nclT] using this
theorem open_nds {n : Nat} {a : Option Addr} {len cap : Nat} {x : DataW H × List MemPlace} (h : DataW.trod enc Tryd.prog W 0 (fun _ => true) true n 25 [.slice a len cap] = some x) : ∃ l : List PN, l.length = len ∧ RowN W a l ∧ ∀ x ∈ l, x.n.Fits := by
  obtain ⟨l, hl, hc, hf, _⟩ := open_rows (f := PN.cs) (q := fun x => x.At W ∧ x.n.Fits) Tryd.underlying25 cNd reads_pn h
  exact ⟨l, hl, ⟨hc, fun x hx => (hf x hx).1⟩, fun x hx => (hf x hx).2⟩
theorem open_lbs {n : Nat} {a : Option Addr} {len cap : Nat} {x : DataW H × List MemPlace} (h : DataW.trod enc Tryd.prog W 0 (fun _ => true) true n 22 [.slice a len cap] = some x) : ∃ l : List Lab, l.length = len ∧ RowAt 4 lcells W a l := by
  obtain ⟨l, hl, hc, hf, _⟩ := open_rows (f := lcells) (q := Lab.fits) Tryd.underlying22 cLab reads_lab h
  exact ⟨l, hl, hc⟩
theorem undLb : Tryd.prog.underlying 28 = some (.struct (Tryd.prog.fieldsOf 28)) := by kernel_rfl
theorem open_lb {r : Reach} {b0 : Nat} {v : Value} {d : DataW H} {p : List MemPlace} (hv : Value.okWide Tryd.prog W r b0 28 v) (h : DataW.Trod enc Tryd.prog W 0 (fun _ => true) true 28 v d p) : ∃ l : Lab, v = l.v := by
  obtain ⟨cs, rfl, l, rfl, _⟩ := open_struct undLb reads_lab hv h
  exact ⟨l, rfl⟩
theorem open_is {n : Nat} {a : Option Addr} {len cap : Nat} {x : DataW H × List MemPlace} (h : DataW.trod enc Tryd.prog W 0 (fun _ => true) true n 56 [.slice a len cap] = some x) : ∃ l : List Int, l.length = len ∧ RowAt 1 icell W a l ∧ ∀ q ∈ l, -9223372036854775808 ≤ q ∧ q ≤ 9223372036854775807 := by
  obtain ⟨l, hl, hc, hf, _⟩ := open_rows (f := icell) (q := fun q => -9223372036854775808 ≤ q ∧ q ≤ 9223372036854775807) Tryd.underlying56 cInt reads_ic h
  exact ⟨l, hl, hc, hf⟩
end
end Go.Proofs.YtapgjdmnlkedgabDoor

/-! NODES TOLD BY DIRECTORIES: the document's own Under (donjonref11); the law's Same. -/
namespace Go.Proofs.YtapgjdmnlkedgabDoor
open Go.RowKit
set_option maxRecDepth 8000
set_option linter.unusedSimpArgs false
set_option linter.unusedVariables false

def scell (s : ByteArray) : List Value := [.string s]
theorem str_ok : ElemOk 9 68 1 scell :=
  ⟨Tryd.underlying68, by
    obtain ⟨i, h1, h2, h3, h4⟩ := info_of (e := 9) (z := .string ⟨#[]⟩) (sz := 1) (b := 16) (by kernel_rfl)
    exact ⟨i, _, _, h1, h2, h3, h4, rfl, by omega⟩, by omega, fun _ => rfl, fun x u hu => by simp [scell] at hu; subst hu; rfl⟩
abbrev OwnT (W : World) (base : Nat) (v : Value) (l : List ByteArray) : Prop := OwnR 9 1 scell W base v l
theorem slash_lit (u : ByteArray) : eqs u slashS = (u.toList == [47]) := by
  unfold eqs
  rw [show slashS.toList = [47] from by simp [slashS]]
def sameN (l m : List Nod) : Bool := l.length == m.length && allEq nodEq l m
theorem sameN_iff {l m : List Nod} : sameN l m = true ↔ l = m := by
  unfold sameN
  rw [Bool.and_eq_true, allEq_iff (fun _ _ => nodEq_iff), beq_iff_eq]
  constructor
  · exact fun h => h.2
  · rintro rfl
    exact ⟨rfl, rfl⟩
def Fits (l : List PN) : Prop := ∀ x ∈ l, x.n.acl.length ≤ 1000000 ∧ x.n.words.length ≤ 1000000
theorem names_get {l : List PN} {i : Nat} {x : PN} (h : l[i]? = some x) : (namesP l)[i]? = some x.n := by
  unfold namesP
  rw [List.getElem?_map, h]
  rfl
end Go.Proofs.YtapgjdmnlkedgabDoor

/-! TREES, GROWN: the law's Grow (donjonlaw11). UNDER WAY. Written by mk_tgrow.py. -/
namespace Go.Proofs.YtapgjdmnlkedgabDoor
open Go.RowKit
set_option maxRecDepth 8000
set_option linter.unusedSimpArgs false
set_option linter.unusedVariables false

theorem OwnR.set {α : Type} {e : TypeId} {sz : Nat} {f : α → List Value} {w : World} {base g j : Nat} {v u : Value} {l : List α} (h : OwnR e sz f w base v l) (hg : v.ownBlock ≠ some g) : OwnR e sz f (w.setCell ⟨g, j, none⟩ u) base v l :=
  h.keep fun k hk => heap_setCell_other _ ⟨g, j, none⟩ k _ (fun q => hg (by rw [hk, q]))
abbrev mzero : Array Value := #[.slice none 0 0, .bool false, .int .i64 0, .int .i64 0, .int .i64 0, .int .i64 0, .slice none 0 0, .int .i64 0, .int .i64 0, .int .i64 0, .int .i64 0, .slice none 0 0, .int .i64 0, .int .i64 0, .int .i64 0, .int .i64 0]
abbrev nzT : Array Value := #[.string ⟨#[]⟩, .bool false, .int .i64 0, .int .i64 0, .int .i64 0, .int .i64 0, .slice none 0 0, .int .i64 0, .int .i64 0, .int .i64 0, .int .i64 0, .slice none 0 0, .int .i64 0, .int .i64 0, .int .i64 0, .int .i64 0]
theorem pm_len (x : PM) : x.cs.length = 16 := rfl
theorem pm_one (x : PM) : ∀ v ∈ x.cs, v.oneCell' = true := by
  intro v hv
  unfold PM.cs at hv
  simp only [List.mem_cons, List.not_mem_nil, or_false] at hv
  rcases hv with rfl | rfl | rfl | rfl | rfl | rfl | rfl | rfl | rfl | rfl | rfl | rfl | rfl | rfl | rfl | rfl <;> rfl
theorem mkPath_size (m : Mk) : (mkPath m).size ≤ 78 := by
  obtain ⟨_, _, _, h⟩ := check_path (check_names (mkPath_names m))
  exact h
theorem mkOf_any (x : PM) (W : World) (h : x.At W) : Calls Tryd.prog 19 #[.slice x.pa x.m.path.length x.pc] W fun e w' => e = .returned (.string (mkPath x.m)) ∧ Below W.heap.size W w' := by
  refine of_any x.pa x.m.path _ x.pc W rfl (fun j hj => ?_) (fun j => ?_)
  · have hq : x.m.path[j]? = some x.m.path[j] := List.getElem?_eq_getElem hj
    obtain ⟨y, hy, hc⟩ := h.p j _ hq
    refine ⟨y, hy, ?_⟩
    have := hc 0 (by decide)
    rw [List.getD_eq_getElem?_getD, hq]
    simpa [icell] using this
  · by_cases hj : j < x.m.path.length
    · have hq : x.m.path[j]? = some x.m.path[j] := List.getElem?_eq_getElem hj
      rw [List.getD_eq_getElem?_getD, hq]
      exact h.f _ (List.getElem_mem hj)
    · rw [List.getD_eq_getElem?_getD, List.getElem?_eq_none (by omega)]
      decide
/-- A node whose rows lie in blocks from B on. -/
def PN.Abv (B : Nat) (x : PN) : Prop := (∀ y, x.aa = some y → B ≤ y.block) ∧ ∀ y, x.wa = some y → B ≤ y.block
theorem own_abv {α : Type} {e : TypeId} {sz : Nat} {f : α → List Value} {W : World} {B n c : Nat} {aa : Option Addr} {l : List α} (h : OwnR e sz f W B (.slice aa n c) l) : ∀ y, aa = some y → B ≤ y.block := fun y hy => by
  rcases h.2 with ⟨h1, _⟩ | ⟨g, cap, cur, hv, hb, _⟩
  · rw [hy] at h1
    cases h1
  · rw [hy] at hv
    injection hv with e1
    obtain rfl := Option.some.inj e1
    exact hb
theorem first_abv (L : List Lab) (g B : Nat) (h : B ≤ g) : ∀ x ∈ firstP L L.length (some ⟨g, 0, none⟩), PN.Abv B x := by
  intro x hx
  unfold firstP at hx
  obtain ⟨n, hn, rfl⟩ := List.mem_map.1 hx
  exact ⟨fun y hy => (by obtain rfl := Option.some.inj hy; exact h), fun y hy => (by cases hy)⟩
/-- A list of nodes that is new, behind w. -/
structure GI (w W : World) (v : Value) (l : List PN) : Prop where
  o : OwnN W w.heap.size v l
  p : ∀ x ∈ l, x.At W
  b : Below w.heap.size w W
  a : ∀ x ∈ l, PN.Abv w.heap.size x
theorem GI.then {w W W' : World} {v : Value} {l : List PN} (h : GI w W v l) (b : Below W.heap.size W W') : GI w W' v l := ⟨h.o.below b, fun x hx => (h.p x hx).below b, Below.then h.b b, h.a⟩
theorem first_at (L : List Lab) (a : Option Addr) (W : World) (h : GrsAt W a allG) : ∀ x ∈ firstP L L.length a, x.At W := by
  intro x hx
  unfold firstP at hx
  obtain ⟨n, hn, rfl⟩ := List.mem_map.1 hx
  have ha : n.acl = allG ∧ n.words = [] := by
    unfold firstTo at hn
    rcases List.mem_cons.1 hn with rfl | hn
    · exact ⟨rfl, rfl⟩
    · obtain ⟨k, hk, rfl⟩ := List.mem_mapIdx.1 hn
      exact ⟨rfl, rfl⟩
  exact ⟨by rw [ha.1]; exact h, by rw [ha.2]; intro j q hq; simp at hq⟩
/-- The node as Grow makes it first. -/
def nod0 (d : Nod) (m : Mk) : Nod := ⟨mkPath m, m.dir, d.label, aclOf m.acl, 0, 0, 0, 0, [], goodL m.by_⟩
theorem gcl_grs {W : World} {a : Option Addr} {gs : List Gr} (h : RowAt 2 gcl W a gs) : GrsAt W a gs := RowAt.grs h
structure G4 (w W : World) (v : Value) (l : List PN) (x : PM) (bm : Nat) (d : PN) (bd : Nat) : Prop where
  g : GI w W v l
  xa : x.At W
  mb : BlkL bm x.cs W
  db : BlkL bd d.cs W
theorem G4.then {w W W' : World} {v : Value} {l : List PN} {x : PM} {bm : Nat} {d : PN} {bd : Nat} (h : G4 w W v l x bm d bd) (b : Below W.heap.size W W') : G4 w W' v l x bm d bd := ⟨h.g.then b, h.xa.below b, stab_blk _ _ _ _ h.mb b, stab_blk _ _ _ _ h.db b⟩
theorem blk_at {W : World} {b o : Nat} {vs cs : List Value} (h : Blk W b vs) (hc : ∀ j v, cs[j]? = some v → vs[o + j]? = some v) : CellsAt W ⟨b, o, none⟩ cs := fun j v hv => by
  have := (h (o + j) v (hc j v hv)).1
  by_cases hj : j = 0
  · subst hj; simpa [Addr.add] using this
  · simpa [Addr.add, hj] using this
theorem blk_four {W : World} {b o : Nat} {vs : List Value} {a0 a1 a2 a3 : Value} (h : Blk W b vs) (h0 : vs[o]? = some a0) (h1 : vs[o + 1]? = some a1) (h2 : vs[o + 2]? = some a2) (h3 : vs[o + 3]? = some a3) : CellsAt W ⟨b, o, none⟩ [a0, a1, a2, a3] := blk_at h fun j v hv => by
  match j, hv with
  | 0, hv => rw [← hv]; exact h0
  | 1, hv => rw [← hv]; exact h1
  | 2, hv => rw [← hv]; exact h2
  | 3, hv => rw [← hv]; exact h3
  | j + 4, hv => simp at hv
theorem boolG_load (w : World) (y : Addr) (v : Value) (h : w.cell? y = some v) : (Instr.loadAt 4 (.pointer (some y))).run Tryd.prog w = .ok v w := by
  have h1 := Tryd.underlying4
  go_simp
theorem grs_load (w : World) (y : Addr) (v : Value) (h : w.cell? y = some v) : (Instr.loadAt 29 (.pointer (some y))).run Tryd.prog w = .ok v w := by
  have h1 := Tryd.underlying29
  go_simp
theorem wds_load (w : World) (y : Addr) (v : Value) (h : w.cell? y = some v) : (Instr.loadAt 32 (.pointer (some y))).run Tryd.prog w = .ok v w := by
  have h1 := Tryd.underlying32
  go_simp
theorem i64_load (w : World) (y : Addr) (v : Value) (h : w.cell? y = some v) : (Instr.loadAt 2 (.pointer (some y))).run Tryd.prog w = .ok v w := by
  have h1 := Tryd.underlying2
  go_simp
section
variable {ops : Array Oper} {o : Oper} {a : Act} {w : World} {Q : Exit → Act → World → Prop}
theorem step_store_rowT {T : TypeId} {K : Act → World → Prop} {E : Prop} {W : World} (hg : o.guard = none) (x y : Operand) (ho : o.op = .store T x y) (b : Nat) (hx : a.eval x = .pointer (some ⟨b, 0, none⟩)) (cs : List Value) (hy : a.eval y = .agg cs.toArray)
    (ht : w.there b 0 cs.length) (hi : (Tryd.prog.info? T).map (·.size) = some cs.length) (h1 : ∀ v ∈ cs, v.oneCell' = true) (hW : w.setCells b 0 cs = W) (hK : K (a.put o.dst undef) W) :
    if Region.wanted o (yielded ops a.tmps) = true then Oper.wp Tryd.prog o a w K Q else E := by
  have hw : Region.wanted o (yielded ops a.tmps) = true := by simp [Region.wanted, hg]
  rw [if_pos hw]
  exact wp_store_mid T x y ho b 0 cs.toArray hx hy ht hi (all_oneCell_toArray h1) (hW ▸ hK)
end
/-- A node's cells, its words' slice as a value. -/
def cellsW (n : Nod) (aa : Option Addr) (ca : Nat) (v : Value) : List Value := [.string n.path, .bool n.dir, .int .i64 n.label.s, .int .i64 n.label.c, .int .i64 n.label.i, .int .i64 n.label.k, .slice aa n.acl.length ca, .int .i64 n.r1, .int .i64 n.r2, .int .i64 n.r3, .int .i64 n.gates, v, .int .i64 n.by_.s, .int .i64 n.by_.c, .int .i64 n.by_.i, .int .i64 n.by_.k]
/-- Words that are put into a node's block, one behind the other. -/
structure GW (Z W : World) (bn : Nat) (n : Nod) (aa : Option Addr) (ca : Nat) (v : Value) (ws : List Int) : Prop where
  o : OwnR 2 1 wcl W Z.heap.size v ws
  b : Below Z.heap.size Z W
  n0 : Z.heap.size ≤ bn
  a : OwnGr W Z.heap.size (.slice aa n.acl.length ca) n.acl
  ne : (Value.slice aa n.acl.length ca).ownBlock ≠ some bn
  nv : v.ownBlock ≠ some bn
  na : ∀ g, (Value.slice aa n.acl.length ca).ownBlock = some g → v.ownBlock ≠ some g
  k : BlkL bn (cellsW n aa ca v) W
section
variable {Z W W' : World} {bn ca : Nat} {n : Nod} {aa : Option Addr} {v v' : Value} {ws ws' : List Int}
theorem GW.then (h : GW Z W bn n aa ca v ws) (b : Below W.heap.size W W') : GW Z W' bn n aa ca v ws := ⟨h.o.below b, Below.then h.b b, h.n0, h.a.below b, h.ne, h.nv, h.na, stab_blk _ _ _ _ h.k b⟩
theorem GW.push (h : GW Z W bn n aa ca v ws) (hg : Grew W v W' v') (ho : OwnR 2 1 wcl W' Z.heap.size v' ws') : BlkL bn (cellsW n aa ca v) W' ∧ Below Z.heap.size Z W' ∧ GW Z (W'.setCell ⟨bn, 11, none⟩ v') bn n aa ca v' ws' := by
  have hb : Below Z.heap.size Z W' := h.b.trans (h.o.grew_below h.b.size hg)
  have hk : BlkL bn (cellsW n aa ca v) W' := ⟨h.k.1.same (hg.by_.block _ h.k.2 (fun e => h.nv e.symm)), Nat.lt_of_lt_of_le h.k.2 hg.by_.size⟩
  have hnv : v'.ownBlock ≠ some bn := fun e => hg.apart h.k.2 (fun e => h.nv e.symm) e.symm
  have ha : OwnGr W' Z.heap.size (.slice aa n.acl.length ca) n.acl := h.a.keep fun g hgg => hg.by_.block _ (h.a.lt hgg).2 (fun e => h.na g hgg e.symm)
  refine ⟨hk, hb, ho.set hnv, hb.setCell (p := ⟨bn, 11, none⟩) h.n0 _, h.n0, ha.set h.ne, h.ne, hnv, fun g hgg e => hg.apart (h.a.lt hgg).2 (fun e => h.na g hgg e.symm) e.symm, ⟨?_, by simpa using hk.2⟩⟩
  exact hk.1.set 11 v' (by simp [cellsW])
end
theorem put_len (l : List PN) (x : PN) : (putP l x).length ≤ l.length + 1 := by
  unfold putP
  have h1 : (dropP l x.n.path).length ≤ l.length := List.length_filter_le _ _
  have h2 := congrArg List.length (List.takeWhile_append_dropWhile (p := fun y : PN => lt y.n.path x.n.path) (l := dropP l x.n.path))
  rw [List.length_append] at h2 ⊢
  rw [List.length_cons]
  omega
theorem grown_GI {w W W' : World} {v v' : Value} {l : List PN} {y : PN} (g : GI w W v l) (hy : y.At W) (hya : PN.Abv w.heap.size y) (ho : OwnN W' W.heap.size v' (putP l y)) (hb : Below W.heap.size W W') : GI w W' v' (putP l y) := ⟨ho.lower g.b.size, fun x hx => by
  rcases put_sub hx with rfl | hx
  · exact hy.below hb
  · exact (g.p x hx).below hb, Below.then g.b hb, fun x hx => by
  rcases put_sub hx with rfl | hx
  · exact hya
  · exact g.a x hx⟩
set_option maxRecDepth 20000 in
set_option maxHeartbeats 8000000 in
theorem growB_any (ta : Option Addr) (ct : Nat) (ts : List Lab) (ma : Option Addr) (mc : Nat) (ms : List PM) (w : World) (hlr : RowAt 4 lrow w ta ts) (hmr : RowM w ma ms) :
    Calls Tryd.prog 6 #[.slice ta ts.length ct, .slice ma ms.length mc] w fun e w' => ∃ v l, e = .returned v ∧ OwnN w' w.heap.size v l ∧ (∀ x ∈ l, x.At w') ∧ namesP l = growN ts (ms.map (·.m)) ∧ Below w.heap.size w w' ∧ (∀ x ∈ l, PN.Abv w.heap.size x) := by
  have hsl : (Tryd.prog.info? 28).map (·.size) = some 4 := by kernel_rfl
  have hb0 := blk_alloc w #[.slice none 0 0, .slice none 0 0, .slice none 0 0] 53
  have hB0 := alloc_below w (.cells #[.slice none 0 0, .slice none 0 0, .slice none 0 0] 53)
  have hz0 := World.size_alloc w (.cells #[.slice none 0 0, .slice none 0 0, .slice none 0 0] 53)
  obtain ⟨n, hn⟩ : ∃ n, ts.length = n := ⟨_, rfl⟩
  rw [hn]
  replace hn : Aside (ts.length = n) := hn
  obtain ⟨R, hR⟩ : ∃ R, growN ts (ms.map (·.m)) = R := ⟨_, rfl⟩
  rw [hR]
  replace hR : Aside (growN ts (ms.map (·.m)) = R) := hR
  go_enter Tryd.func6, Tryd.ntmps6
  go_upto_block 0 with fail
  generalize w.alloc (.cells #[.slice none 0 0, .slice none 0 0, .slice none 0 0] 53) = W0 at *
  go_cut [] from 6 (fun wc => ∃ v, OwnR 28 4 lrow wc (w.heap.size + 1) v ((ts.take 4).map goodL) ∧ Blk wc w.heap.size [v, .slice none 0 0, .slice none 0 0] ∧ Below w.heap.size w wc ∧ w.heap.size + 1 ≤ wc.heap.size)
  case first =>
    go_wp2_with fail
    go_loopw [6] (fun t6 wr => ∃ i : Nat, i ≤ n ∧ i ≤ 4 ∧ t6 = .int .i64 (i : Int) ∧ ∃ v, OwnR 28 4 lrow wr (w.heap.size + 1) v ((ts.take i).map goodL) ∧ Blk wr w.heap.size [v, .slice none 0 0, .slice none 0 0] ∧ Below w.heap.size w wr ∧ w.heap.size + 1 ≤ wr.heap.size) (fun t6 _ => n - (Go.RowKit.intOf t6).toNat)
    case atStart => exact ⟨0, by omega, by omega, rfl, .slice none 0 0, OwnR.nil _ _ _ _ _, hb0, hB0, by omega⟩
    case round =>
      clear hb0 hB0 hz0
      obtain ⟨i, hi, hi4, rfl, v, ho, hk, hB, hz⟩ := hrel
      by_cases hlt : i < n ∧ i < 4
      · obtain ⟨tt, hti⟩ : ∃ tt, ts[i]? = some tt := ⟨_, List.getElem?_eq_getElem (by rw [hn.out]; exact hlt.1)⟩
        obtain ⟨ya, rfl, -⟩ := hlr i tt hti
        have hmap : (ts.take (i + 1)).map goodL = (ts.take i).map goodL ++ [goodL tt] := by rw [List.take_add_one, hti]; simp
        have hlL : ((ts.take i).map goodL).length ≤ 4 := by simp; omega
        generalize (ts.take i).map goodL = L at *
        have hS0 : CellsAt wr.drew (ya.add (i * 4)) [.int .i64 tt.s, .int .i64 tt.c, .int .i64 tt.i, .int .i64 tt.k] := (hlr.below lab_ok.len hB).at lab_ok.len hti
        have hk0 : Blk wr.drew w.heap.size [v, .slice none 0 0, .slice none 0 0] := hk
        have ho0 : OwnR 28 4 lrow wr.drew (w.heap.size + 1) v L := ho
        have hz0 : w.heap.size + 1 ≤ wr.drew.heap.size := hz
        have hB0 : Below w.heap.size w wr.drew := hB.drew
        have i1 : (i : Int) < (n : Int) := by omega
        have i2 : (i : Int) < 4 := by omega
        obtain ⟨va, vc, hvv, -, -, -⟩ := OwnR.slice lab_ok.len ho
        subst hvv
        clear ho hk hB hz
        go_wp2_with fail
        refine wp_region_held_drew (S := (fun W => CellsAt W (ya.add (i * 4)) [.int .i64 tt.s, .int .i64 tt.c, .int .i64 tt.i, .int .i64 tt.k])) (by kernel_rfl) (by exact hS0) ?_
        intro hHeld
        generalize wr.drew = w0 at *
        refine wpAnyH_take (i := 0) (v := ?_) (by simp only [gA, gB, gC]; rfl) (by kernel_rfl) (by kernel_rfl) (by kernel_rfl) (by exact fun _ _ _ h => h) (Or.inl ⟨by rfl, ?_⟩) (by assumption) ?_; rotate_left; (focus (intro w hSw; (try dsimp only at hSw); go_simp; try with_reducible rfl)); (try simp only [Act.put, sA, sB, sC])
        refine wpAnyH_take (i := 2) (v := ?_) (by simp only [gA, gB, gC]; rfl) (by kernel_rfl) (by kernel_rfl) (by kernel_rfl) (by exact fun _ _ _ h => h) (Or.inl ⟨by rfl, ?_⟩) (by assumption) ?_; rotate_left; (focus (intro w hSw; (try dsimp only at hSw); go_simp; try with_reducible rfl)); (try simp only [Act.put, sA, sB, sC])
        refine wpAnyH_take (i := 3) (v := ?_) (by simp only [gA, gB, gC]; rfl) (by kernel_rfl) (by kernel_rfl) (by kernel_rfl) (by exact fun _ _ _ h => h) (Or.inl ⟨by rfl, ?_⟩) (by assumption) ?_; rotate_left; (focus (intro w hSw; (try dsimp only at hSw); go_simp; try with_reducible rfl)); (try simp only [Act.put, sA, sB, sC])
        refine wpAnyH_take (i := 4) (v := ?_) (by simp only [gA, gB, gC]; rfl) (by kernel_rfl) (by kernel_rfl) (by kernel_rfl) (by exact fun _ _ _ h => h) (Or.inl ⟨by rfl, ?_⟩) (by assumption) ?_; rotate_left; (focus (intro w hSw; (try dsimp only at hSw); go_simp; try with_reducible rfl)); (try simp only [Act.put, sA, sB, sC])
        refine wpAnyH_take (i := 5) (v := _) (by simp only [gA, gB, gC]; rfl) (by kernel_rfl) (by kernel_rfl) (by kernel_rfl) (by exact fun _ _ _ h => h) (yields_at (by rfl) _ rfl _ rfl [.int .i64 tt.s, .int .i64 tt.c, .int .i64 tt.i, .int .i64 tt.k] (fun _ q => q) Tryd.underlying28 rfl hsl) (by assumption) ?_; (try simp only [Act.put, sA, sB, sC])
        refine wpAnyH_ready (rs := [1, 6]) (by kernel_rfl) (by simp) ?_
        refine AllReadyH.cons (by simp only [gA, gB, gC]; rfl) (fun K hK => ?_) ?_
        · skip
          have hcf := (hk0 0 _ rfl).1
          go_simp
          refine hK.out _ _ (hS0) ?_
          clear hHeld hK
          intro hHeld
          obtain ⟨w1, hww⟩ : ∃ w', w' = w0 := ⟨_, rfl⟩
          subst hww
          have hS1 := hS0
          have hk1 := hk0
          have hz1 := hz0
          have ho1 := ho0
          have hB1 := hB0
          (try simp only [Act.put, sA, sB, sC])
          refine wpAnyH_ready (rs := [6]) (by kernel_rfl) (by simp) ?_
          refine AllReadyH.cons (by simp only [gA, gB, gC]; rfl) (fun K hK => ?_) AllReadyH.nil
          go_simp
          go_at_call 18
          refine (good_any tt _).mono ?_
          rintro e w2 ⟨rfl, hb⟩
          have hS2 := hS1.below hb
          have hk2 := hk1.same (hb.block _ (by omega))
          have hz2 := Nat.le_trans hz1 hb.size
          have ho2 := ho1.below hb
          have hB2 := Below.then hB1 hb
          refine hK.out _ _ (hS2) ?_
          clear hHeld hK
          intro hHeld
          (try simp only [Act.put, sA, sB, sC])
          refine wpAnyH_ready (rs := [7]) (by kernel_rfl) (by simp) ?_
          refine AllReadyH.cons (by simp only [gA, gB, gC]; rfl) (fun K hK => ?_) AllReadyH.nil
          refine step_build1 lab_ok (by decide) rfl _ rfl [.int .i64 (goodL tt).s, .int .i64 (goodL tt).c, .int .i64 (goodL tt).i, .int .i64 (goodL tt).k] rfl rfl ?_
          (try simp only [Act.put, sA, sB, sC])
          refine hK.out _ _ (hS2.below (alloc_below _ _)) ?_
          clear hHeld hK
          intro hHeld
          obtain ⟨vz, wz, hap, hoz, hgz⟩ := OwnR.push lab_ok ho2 hz2 (goodL tt) [.int .i64 (goodL tt).s, .int .i64 (goodL tt).c, .int .i64 (goodL tt).i, .int .i64 (goodL tt).k].toArray rfl 28 (by omega)
          have hbz := ho2.grew_below hz2 hgz
          have hkz := hk2.same (hbz.block _ (by omega))
          have hzz := Nat.le_trans hz2 hbz.size
          have hBz := hB2.trans (hbz.mono (by omega))
          have hSz : CellsAt wz (ya.add (i * 4)) [.int .i64 tt.s, .int .i64 tt.c, .int .i64 tt.i, .int .i64 tt.k] := (hlr.below lab_ok.len hBz).at lab_ok.len hti
          have hS3 := hS2.below (alloc_below w2 (.cells [.int .i64 (goodL tt).s, .int .i64 (goodL tt).c, .int .i64 (goodL tt).i, .int .i64 (goodL tt).k].toArray 28))
          have hk3 := hk2.same ((alloc_below w2 (.cells [.int .i64 (goodL tt).s, .int .i64 (goodL tt).c, .int .i64 (goodL tt).i, .int .i64 (goodL tt).k].toArray 28)).block _ (by omega))
          have hz3 := Nat.le_trans hz2 (alloc_below w2 (.cells [.int .i64 (goodL tt).s, .int .i64 (goodL tt).c, .int .i64 (goodL tt).i, .int .i64 (goodL tt).k].toArray 28)).size
          have ho3 := ho2
          have hB3 := hB2
          obtain ⟨w3, hww⟩ : ∃ w', w2.alloc (.cells [.int .i64 (goodL tt).s, .int .i64 (goodL tt).c, .int .i64 (goodL tt).i, .int .i64 (goodL tt).k].toArray 28) = w' := ⟨_, rfl⟩
          rw [hww] at hS3 hk3 hz3 hap hHeld ⊢
          clear hww
          (try simp only [Act.put, sA, sB, sC])
          refine wpAnyH_ready (rs := [8]) (by kernel_rfl) (by simp) ?_
          refine AllReadyH.cons (by simp only [gA, gB, gC]; rfl) (fun K hK => ?_) AllReadyH.nil
          refine step_append rfl _ _ rfl rfl rfl rfl hap ?_
          (try simp only [Act.put, sA, sB, sC])
          refine hK.out _ _ (hSz) ?_
          clear hHeld hK
          intro hHeld
          have hcz := hkz 0 _ rfl
          have hk2 := hkz.set 0 vz (by simp)
          have hoz2 := hoz.set (g := w.heap.size) (j := 0) (u := vz) (fun q => by have := (hoz.lt q).1; omega)
          have hB2 : Below w.heap.size w (wz.setCell ⟨w.heap.size, 0, none⟩ vz) := hBz.setCell (p := ⟨w.heap.size, 0, none⟩) (Nat.le_refl _) _
          have hz2 : w.heap.size + 1 ≤ (wz.setCell ⟨w.heap.size, 0, none⟩ vz).heap.size := by simpa using hzz
          have hS2 : CellsAt (wz.setCell ⟨w.heap.size, 0, none⟩ vz) (ya.add (i * 4)) [.int .i64 tt.s, .int .i64 tt.c, .int .i64 tt.i, .int .i64 tt.k] := (hlr.below lab_ok.len hB2).at lab_ok.len hti
          obtain ⟨av, cv, hvv, -, -, -⟩ := OwnR.slice lab_ok.len hoz
          generalize (L ++ [goodL tt]).length = lz at hvv
          subst hvv
          (try simp only [Act.put, sA, sB, sC])
          refine wpAnyH_take (i := 9) (v := ?_) (by simp only [gA, gB, gC]; rfl) (by kernel_rfl) (by kernel_rfl) (by kernel_rfl) (by exact fun _ _ _ h => h) (Or.inl ⟨by rfl, ?_⟩) (by assumption) ?_; rotate_left; (focus (intro w hSw; (try dsimp only at hSw); go_simp; try with_reducible rfl)); (try simp only [Act.put, sA, sB, sC])
          refine wpAnyH_ready (rs := [10]) (by kernel_rfl) (by simp) ?_
          refine AllReadyH.cons (by simp only [gA, gB, gC]; rfl) (fun K hK => ?_) AllReadyH.nil
          go_simp
          refine hK.out _ _ (hS2) ?_
          clear hHeld hK
          intro hHeld
          (try simp only [Act.put, sA, sB, sC])
          refine wpAnyH_done (by kernel_rfl) ?_ _
          go_wp2_with fail
          exact ⟨⟨i + 1, by omega, by omega, by simp, _, by rw [hmap]; exact hoz2, hk2, hB2, hz2⟩, by simp [Go.RowKit.intOf]; omega⟩
        refine AllReadyH.cons (by simp only [gA, gB, gC]; rfl) (fun K hK => ?_) AllReadyH.nil
        go_simp
        go_at_call 18
        refine (good_any tt _).mono ?_
        rintro e w1 ⟨rfl, hb⟩
        have hS1 := hS0.below hb
        have hk1 := hk0.same (hb.block _ (by omega))
        have hz1 := Nat.le_trans hz0 hb.size
        have ho1 := ho0.below hb
        have hB1 := Below.then hB0 hb
        refine hK.out _ _ (hS1) ?_
        clear hHeld hK
        intro hHeld
        (try simp only [Act.put, sA, sB, sC])
        refine wpAnyH_ready (rs := [1, 7]) (by kernel_rfl) (by simp) ?_
        refine AllReadyH.cons (by simp only [gA, gB, gC]; rfl) (fun K hK => ?_) ?_
        · skip
          have hcf := (hk1 0 _ rfl).1
          go_simp
          refine hK.out _ _ (hS1) ?_
          clear hHeld hK
          intro hHeld
          obtain ⟨w2, hww⟩ : ∃ w', w' = w1 := ⟨_, rfl⟩
          subst hww
          have hS2 := hS1
          have hk2 := hk1
          have hz2 := hz1
          have ho2 := ho1
          have hB2 := hB1
          (try simp only [Act.put, sA, sB, sC])
          refine wpAnyH_ready (rs := [7]) (by kernel_rfl) (by simp) ?_
          refine AllReadyH.cons (by simp only [gA, gB, gC]; rfl) (fun K hK => ?_) AllReadyH.nil
          refine step_build1 lab_ok (by decide) rfl _ rfl [.int .i64 (goodL tt).s, .int .i64 (goodL tt).c, .int .i64 (goodL tt).i, .int .i64 (goodL tt).k] rfl rfl ?_
          (try simp only [Act.put, sA, sB, sC])
          refine hK.out _ _ (hS2.below (alloc_below _ _)) ?_
          clear hHeld hK
          intro hHeld
          obtain ⟨vz, wz, hap, hoz, hgz⟩ := OwnR.push lab_ok ho2 hz2 (goodL tt) [.int .i64 (goodL tt).s, .int .i64 (goodL tt).c, .int .i64 (goodL tt).i, .int .i64 (goodL tt).k].toArray rfl 28 (by omega)
          have hbz := ho2.grew_below hz2 hgz
          have hkz := hk2.same (hbz.block _ (by omega))
          have hzz := Nat.le_trans hz2 hbz.size
          have hBz := hB2.trans (hbz.mono (by omega))
          have hSz : CellsAt wz (ya.add (i * 4)) [.int .i64 tt.s, .int .i64 tt.c, .int .i64 tt.i, .int .i64 tt.k] := (hlr.below lab_ok.len hBz).at lab_ok.len hti
          have hS3 := hS2.below (alloc_below w2 (.cells [.int .i64 (goodL tt).s, .int .i64 (goodL tt).c, .int .i64 (goodL tt).i, .int .i64 (goodL tt).k].toArray 28))
          have hk3 := hk2.same ((alloc_below w2 (.cells [.int .i64 (goodL tt).s, .int .i64 (goodL tt).c, .int .i64 (goodL tt).i, .int .i64 (goodL tt).k].toArray 28)).block _ (by omega))
          have hz3 := Nat.le_trans hz2 (alloc_below w2 (.cells [.int .i64 (goodL tt).s, .int .i64 (goodL tt).c, .int .i64 (goodL tt).i, .int .i64 (goodL tt).k].toArray 28)).size
          have ho3 := ho2
          have hB3 := hB2
          obtain ⟨w3, hww⟩ : ∃ w', w2.alloc (.cells [.int .i64 (goodL tt).s, .int .i64 (goodL tt).c, .int .i64 (goodL tt).i, .int .i64 (goodL tt).k].toArray 28) = w' := ⟨_, rfl⟩
          rw [hww] at hS3 hk3 hz3 hap hHeld ⊢
          clear hww
          (try simp only [Act.put, sA, sB, sC])
          refine wpAnyH_ready (rs := [8]) (by kernel_rfl) (by simp) ?_
          refine AllReadyH.cons (by simp only [gA, gB, gC]; rfl) (fun K hK => ?_) AllReadyH.nil
          refine step_append rfl _ _ rfl rfl rfl rfl hap ?_
          (try simp only [Act.put, sA, sB, sC])
          refine hK.out _ _ (hSz) ?_
          clear hHeld hK
          intro hHeld
          have hcz := hkz 0 _ rfl
          have hk2 := hkz.set 0 vz (by simp)
          have hoz2 := hoz.set (g := w.heap.size) (j := 0) (u := vz) (fun q => by have := (hoz.lt q).1; omega)
          have hB2 : Below w.heap.size w (wz.setCell ⟨w.heap.size, 0, none⟩ vz) := hBz.setCell (p := ⟨w.heap.size, 0, none⟩) (Nat.le_refl _) _
          have hz2 : w.heap.size + 1 ≤ (wz.setCell ⟨w.heap.size, 0, none⟩ vz).heap.size := by simpa using hzz
          have hS2 : CellsAt (wz.setCell ⟨w.heap.size, 0, none⟩ vz) (ya.add (i * 4)) [.int .i64 tt.s, .int .i64 tt.c, .int .i64 tt.i, .int .i64 tt.k] := (hlr.below lab_ok.len hB2).at lab_ok.len hti
          obtain ⟨av, cv, hvv, -, -, -⟩ := OwnR.slice lab_ok.len hoz
          generalize (L ++ [goodL tt]).length = lz at hvv
          subst hvv
          (try simp only [Act.put, sA, sB, sC])
          refine wpAnyH_take (i := 9) (v := ?_) (by simp only [gA, gB, gC]; rfl) (by kernel_rfl) (by kernel_rfl) (by kernel_rfl) (by exact fun _ _ _ h => h) (Or.inl ⟨by rfl, ?_⟩) (by assumption) ?_; rotate_left; (focus (intro w hSw; (try dsimp only at hSw); go_simp; try with_reducible rfl)); (try simp only [Act.put, sA, sB, sC])
          refine wpAnyH_ready (rs := [10]) (by kernel_rfl) (by simp) ?_
          refine AllReadyH.cons (by simp only [gA, gB, gC]; rfl) (fun K hK => ?_) AllReadyH.nil
          go_simp
          refine hK.out _ _ (hS2) ?_
          clear hHeld hK
          intro hHeld
          (try simp only [Act.put, sA, sB, sC])
          refine wpAnyH_done (by kernel_rfl) ?_ _
          go_wp2_with fail
          exact ⟨⟨i + 1, by omega, by omega, by simp, _, by rw [hmap]; exact hoz2, hk2, hB2, hz2⟩, by simp [Go.RowKit.intOf]; omega⟩
        refine AllReadyH.cons (by simp only [gA, gB, gC]; rfl) (fun K hK => ?_) AllReadyH.nil
        refine step_build1 lab_ok (by decide) rfl _ rfl [.int .i64 (goodL tt).s, .int .i64 (goodL tt).c, .int .i64 (goodL tt).i, .int .i64 (goodL tt).k] rfl rfl ?_
        (try simp only [Act.put, sA, sB, sC])
        refine hK.out _ _ (hS1.below (alloc_below _ _)) ?_
        clear hHeld hK
        intro hHeld
        obtain ⟨vz, wz, hap, hoz, hgz⟩ := OwnR.push lab_ok ho1 hz1 (goodL tt) [.int .i64 (goodL tt).s, .int .i64 (goodL tt).c, .int .i64 (goodL tt).i, .int .i64 (goodL tt).k].toArray rfl 28 (by omega)
        have hbz := ho1.grew_below hz1 hgz
        have hkz := hk1.same (hbz.block _ (by omega))
        have hzz := Nat.le_trans hz1 hbz.size
        have hBz := hB1.trans (hbz.mono (by omega))
        have hSz : CellsAt wz (ya.add (i * 4)) [.int .i64 tt.s, .int .i64 tt.c, .int .i64 tt.i, .int .i64 tt.k] := (hlr.below lab_ok.len hBz).at lab_ok.len hti
        have hS2 := hS1.below (alloc_below w1 (.cells [.int .i64 (goodL tt).s, .int .i64 (goodL tt).c, .int .i64 (goodL tt).i, .int .i64 (goodL tt).k].toArray 28))
        have hk2 := hk1.same ((alloc_below w1 (.cells [.int .i64 (goodL tt).s, .int .i64 (goodL tt).c, .int .i64 (goodL tt).i, .int .i64 (goodL tt).k].toArray 28)).block _ (by omega))
        have hz2 := Nat.le_trans hz1 (alloc_below w1 (.cells [.int .i64 (goodL tt).s, .int .i64 (goodL tt).c, .int .i64 (goodL tt).i, .int .i64 (goodL tt).k].toArray 28)).size
        have ho2 := ho1
        have hB2 := hB1
        obtain ⟨w2, hww⟩ : ∃ w', w1.alloc (.cells [.int .i64 (goodL tt).s, .int .i64 (goodL tt).c, .int .i64 (goodL tt).i, .int .i64 (goodL tt).k].toArray 28) = w' := ⟨_, rfl⟩
        rw [hww] at hS2 hk2 hz2 hap hHeld ⊢
        clear hww
        (try simp only [Act.put, sA, sB, sC])
        refine wpAnyH_ready (rs := [1]) (by kernel_rfl) (by simp) ?_
        refine AllReadyH.cons (by simp only [gA, gB, gC]; rfl) (fun K hK => ?_) AllReadyH.nil
        have hcf := (hk2 0 _ rfl).1
        go_simp
        refine hK.out _ _ (hS2) ?_
        clear hHeld hK
        intro hHeld
        obtain ⟨w3, hww⟩ : ∃ w', w' = w2 := ⟨_, rfl⟩
        subst hww
        have hS3 := hS2
        have hk3 := hk2
        have hz3 := hz2
        have ho3 := ho2
        have hB3 := hB2
        (try simp only [Act.put, sA, sB, sC])
        refine wpAnyH_ready (rs := [8]) (by kernel_rfl) (by simp) ?_
        refine AllReadyH.cons (by simp only [gA, gB, gC]; rfl) (fun K hK => ?_) AllReadyH.nil
        refine step_append rfl _ _ rfl rfl rfl rfl hap ?_
        (try simp only [Act.put, sA, sB, sC])
        refine hK.out _ _ (hSz) ?_
        clear hHeld hK
        intro hHeld
        have hcz := hkz 0 _ rfl
        have hk2 := hkz.set 0 vz (by simp)
        have hoz2 := hoz.set (g := w.heap.size) (j := 0) (u := vz) (fun q => by have := (hoz.lt q).1; omega)
        have hB2 : Below w.heap.size w (wz.setCell ⟨w.heap.size, 0, none⟩ vz) := hBz.setCell (p := ⟨w.heap.size, 0, none⟩) (Nat.le_refl _) _
        have hz2 : w.heap.size + 1 ≤ (wz.setCell ⟨w.heap.size, 0, none⟩ vz).heap.size := by simpa using hzz
        have hS2 : CellsAt (wz.setCell ⟨w.heap.size, 0, none⟩ vz) (ya.add (i * 4)) [.int .i64 tt.s, .int .i64 tt.c, .int .i64 tt.i, .int .i64 tt.k] := (hlr.below lab_ok.len hB2).at lab_ok.len hti
        obtain ⟨av, cv, hvv, -, -, -⟩ := OwnR.slice lab_ok.len hoz
        generalize (L ++ [goodL tt]).length = lz at hvv
        subst hvv
        (try simp only [Act.put, sA, sB, sC])
        refine wpAnyH_take (i := 9) (v := ?_) (by simp only [gA, gB, gC]; rfl) (by kernel_rfl) (by kernel_rfl) (by kernel_rfl) (by exact fun _ _ _ h => h) (Or.inl ⟨by rfl, ?_⟩) (by assumption) ?_; rotate_left; (focus (intro w hSw; (try dsimp only at hSw); go_simp; try with_reducible rfl)); (try simp only [Act.put, sA, sB, sC])
        refine wpAnyH_ready (rs := [10]) (by kernel_rfl) (by simp) ?_
        refine AllReadyH.cons (by simp only [gA, gB, gC]; rfl) (fun K hK => ?_) AllReadyH.nil
        go_simp
        refine hK.out _ _ (hS2) ?_
        clear hHeld hK
        intro hHeld
        (try simp only [Act.put, sA, sB, sC])
        refine wpAnyH_done (by kernel_rfl) ?_ _
        go_wp2_with fail
        exact ⟨⟨i + 1, by omega, by omega, by simp, _, by rw [hmap]; exact hoz2, hk2, hB2, hz2⟩, by simp [Go.RowKit.intOf]; omega⟩
      · have hend : (ts.take i).map goodL = (ts.take 4).map goodL := by
          have hnn := hn.out
          by_cases h4 : i = 4
          · rw [h4]
          · rw [List.take_of_length_le (by omega), List.take_of_length_le (by omega)]
        rw [hend] at ho
        by_cases hin : i < n
        · obtain rfl : i = 4 := by omega
          have i1 : ((4 : Nat) : Int) < (n : Int) := by omega
          go_wp2_with fail
          go_meet
          exact ⟨v, ho, hk, hB, hz⟩
        · obtain rfl : i = n := by omega
          go_wp2_with fail
          go_meet
          exact ⟨v, ho, hk, hB, hz⟩
  case rest =>
    clear hb0 hB0 hz0
    obtain ⟨v, ho, hk, hB, hz⟩ := hcut
    have hl4 : ((ts.take 4).map goodL).length ≤ 4 := by simp; omega
    have hR' := hR.out
    unfold growN at hR'
    clear hR
    generalize (ts.take 4).map goodL = L at *
    obtain ⟨va, vc, hvv, -, -, hLr⟩ := OwnR.slice lab_ok.len ho
    subst hvv
    have hrow := hk.range
    have hcf : (Tryd.prog.info? 53).map (·.size) = some 3 := by kernel_rfl
    clear ho hk
    replace hR' : Aside _ := hR'
    go_wp2_with (first | (refine wpList_load_row rfl _ rfl _ rfl [.slice va L.length vc, .slice none 0 0, .slice none 0 0] hrow Tryd.underlying53 rfl hcf ?_) | fail)
    refine (rfirstT_any va vc L _ _ _ _ _ _ (by omega) wc hLr).mono ?_
    rintro e W1 ⟨v1, rfl, hO1, hG1, hB1⟩
    have g1 : GI w W1 v1 (firstP L L.length (some ⟨wc.heap.size + 1, 0, none⟩)) := ⟨hO1.lower (by omega), first_at L _ W1 hG1, hB.trans (hB1.mono (by omega)), first_abv L _ _ (by omega)⟩
    have hn1 := firstP_names L L.length (some ⟨wc.heap.size + 1, 0, none⟩)
    have hs1 := firstP_len L L.length (some ⟨wc.heap.size + 1, 0, none⟩)
    clear hO1 hG1 hB1 hLr hrow hz hB
    obtain ⟨m, hm⟩ : ∃ m, ms.length = m := ⟨_, rfl⟩
    rw [hm]
    replace hm : Aside (ms.length = m) := hm
    have hL1 : (firstP L L.length (some ⟨wc.heap.size + 1, 0, none⟩)).length ≤ 5 := by rw [hs1]; have := dist_len L L.length; omega
    generalize hfp : firstP L L.length (some ⟨wc.heap.size + 1, 0, none⟩) = F at *
    clear hfp hs1
    replace hn1 : Aside _ := hn1
    clear hcf
    generalize wc.heap.size = cz at *
    go_wp2_with fail
    go_loopw [7, 8] (fun t7 t8 wr => ∃ (i : Nat) (l : List PN), i ≤ m ∧ i ≤ 14 ∧ t8 = .int .i64 (i : Int) ∧ GI w wr t7 l ∧ l.length ≤ 5 + i ∧ Aside (((ms.map (·.m)).take i).foldl growStep (firstN L) = namesP l)) (fun _ t8 _ => m - (Go.RowKit.intOf t8).toNat)
    case atStart => exact ⟨0, F, by omega, by omega, rfl, g1, by omega, by rw [hn1.out]; exact rfl⟩
    case round =>
      clear g1 hL1
      obtain ⟨i, l, hi, hi14, rfl, g, hll, hf⟩ := hrel
      obtain ⟨va, vc, hvv, -, -, hrl⟩ := OwnR.slice pn_ok.len g.o
      subst hvv
      have hrn : RowN wr va l := ⟨hrl, g.p⟩
      by_cases hlt : i < m ∧ i < 14
      · obtain ⟨x, hx⟩ : ∃ x, ms[i]? = some x := ⟨_, List.getElem?_eq_getElem (by rw [hm.out]; exact hlt.1)⟩
        have hMr := hmr.below g.b
        obtain ⟨ya, rfl, -⟩ := hMr.r i x hx
        have hxa := hMr.p x (List.mem_of_getElem? hx)
        have hcx := hMr.r.at pm_len hx
        have hst : ((ms.map (·.m)).take (i + 1)).foldl growStep (firstN L) = growStep (namesP l) x.m := by
          rw [List.take_add_one, List.getElem?_map, hx, List.foldl_append, hf.out]; rfl
        replace hst : Aside _ := hst
        obtain ⟨Wm, hWm, hth, hbk, hBm⟩ := put_new wr mzero 58 x.cs rfl (by rw [pm_len]; omega)
        have hc0 := (hbk.1 0 _ rfl).1
        have hszm : (Tryd.prog.info? 58).map (·.size) = some x.cs.length := by kernel_rfl
        have hone := pm_one x
        have i1 : (i : Int) < (m : Int) := by omega
        have i2 : (i : Int) < 14 := by omega
        have kof := mkOf_any x Wm (hxa.below hBm)
        have g1 := g.then hBm
        have hrn1 := hrn.below hBm
        have hxa1 := hxa.below hBm
        go_wp2_with (first | (refine wpList_load_at rfl _ rfl (ya.add (i * 16)) rfl x.cs hcx Tryd.underlying58 rfl hszm ?_) | (refine wpList_store_row rfl _ _ rfl wr.heap.size rfl x.cs rfl hth hszm hone hWm ?_) | fail)
        refine kof.mono ?_
        rintro e W2 ⟨rfl, hB2⟩
        generalize wr.heap.size = bm at *
        have g2 := g1.then hB2
        have hrn2 := hrn1.below hB2
        have hxa2 := hxa1.below hB2
        have hbk2 := stab_blk _ _ _ _ hbk hB2
        have hsp := mkPath_size x.m
        have hst' := hst.out
        obtain ⟨T, hT⟩ : ∃ T, ((ms.map (·.m)).take (i + 1)).foldl growStep (firstN L) = T := ⟨_, rfl⟩
        rw [hT] at hst'
        replace hT : Aside _ := hT
        unfold growStep at hst'
        obtain ⟨p, hp⟩ : ∃ p, mkPath x.m = p := ⟨_, rfl⟩
        rw [hp] at hsp hst' ⊢
        replace hp : Aside (mkPath x.m = p) := hp
        clear kof hrn hrn1 hxa hxa1 hbk hBm hB2 hone hc0 hcx hth g g1 hst hMr hrl hWm Wm
        cases he : eqs p slashS
        · rw [if_neg (by rw [he]; decide)] at hst'
          have f0 : (p.toList == [47]) = false := by rw [← slash_lit]; exact he
          go_wp2_with fail
          refine (rparent_any p (by omega) W2).mono ?_
          rintro e W2' ⟨rfl, hW2'⟩
          subst hW2'
          go_wp2_with fail
          refine (rfindT_any va vc l (parentOf p) (by omega) _ hrn2).mono ?_
          rintro e W3 ⟨rfl, hB3⟩
          have hfp := find_names l (parentOf p)
          generalize hfd : findP l (parentOf p) = fd at *
          replace hfd : Aside _ := hfd
          have hszn : (Tryd.prog.info? 34).map (·.size) = some (foundCs fd).length := by rw [show (foundCs fd).length = 16 from rfl]; kernel_rfl
          have honen : ∀ v ∈ foundCs fd, v.oneCell' = true := pn_one _
          obtain ⟨W4, hW4, hth4, hbd, hB4⟩ := put_new W3 nzT 34 (foundCs fd) rfl (by rw [show (foundCs fd).length = 16 from rfl]; omega)
          have hB34 := Below.then hB3 hB4
          have g4 := g2.then hB34
          have hrn4 := hrn2.below hB34
          have hxa4 := hxa2.below hB34
          have hbk4 := stab_blk _ _ _ _ hbk2 hB34
          clear g2 hrn2 hxa2 hbk2 hB34 hB3 hB4
          go_wp2_with (first | (refine wpList_store_row rfl _ _ rfl W3.heap.size rfl (foundCs fd) rfl hth4 hszn honen hW4 ?_) | fail)
          generalize W3.heap.size = bd at *
          clear hth4 hW4 hszn honen W3
          refine (rfindT_any va vc l p (by omega) _ hrn4).mono ?_
          rintro e W5 ⟨rfl, hB5⟩
          have hfp2 := find_names l p
          generalize hfe : findP l p = fe at *
          replace hfe : Aside _ := hfe
          have hszn : (Tryd.prog.info? 34).map (·.size) = some (foundCs fe).length := by rw [show (foundCs fe).length = 16 from rfl]; kernel_rfl
          have honen : ∀ v ∈ foundCs fe, v.oneCell' = true := pn_one _
          obtain ⟨W6, hW6, hth6, hbe, hB6⟩ := put_new W5 nzT 34 (foundCs fe) rfl (by rw [show (foundCs fe).length = 16 from rfl]; omega)
          have hB56 := Below.then hB5 hB6
          have g6 := g4.then hB56
          have hrn6 := hrn4.below hB56
          have hxa6 := hxa4.below hB56
          have hbk6 := stab_blk _ _ _ _ hbk4 hB56
          have hbd6 := stab_blk _ _ _ _ hbd hB56
          clear g4 hrn4 hxa4 hbk4 hbd hB56 hB5 hB6
          rw [hfp, hfp2] at hst'
          cases fd with
          | none =>
            go_wp2_with (first | (refine wpList_store_row rfl _ _ rfl W5.heap.size rfl (foundCs fe) rfl hth6 hszn honen hW6 ?_) | fail)
            exact ⟨⟨i + 1, l, by omega, by omega, by simp, g6, by omega, by rw [hT.out]; exact hst'⟩, by simp [Go.RowKit.intOf]; omega⟩
          | some d =>
            have hd1 := (hbd6.1 1 (.bool d.n.dir) rfl).1
            by_cases hgo : d.n.dir = true ∧ fe = none
            · obtain ⟨hdd, rfl⟩ := hgo
              rw [hdd] at hd1
              replace hst' : T = putN (namesP l) (mkN d.n x.m) := by rw [hst']; simp [hdd]
              replace hst' : Aside _ := hst'
              go_upto_region 16 with (first | (refine wpList_store_row rfl _ _ rfl W5.heap.size rfl (foundCs none) rfl hth6 hszn honen hW6 ?_) | fail)
              have h4 : G4 w W6 (.slice va l.length vc) l x bm d bd := ⟨g6, hxa6, hbk6, hbd6⟩
              clear g6 hxa6 hbk6 hbd6 hth6 hszn honen hW6 hrn6 hd1 hbe
              generalize W5.heap.size = be at *
              clear W5
              go_cut [15] from 39 to 129 (fun s15 wq => ∃ (bn : Nat) (aa : Option Addr) (ca : Nat), s15 = .pointer (some ⟨bn, 0, none⟩) ∧ Below W6.heap.size W6 wq ∧ W6.heap.size ≤ bn ∧ BlkL bn (nclT (nod0 d.n x.m) aa ca none 0) wq ∧ OwnGr wq W6.heap.size (.slice aa (aclOf x.m.acl).length ca) (aclOf x.m.acl) ∧ (Value.slice aa (aclOf x.m.acl).length ca).ownBlock ≠ some bn)
              case first =>
                have hS0 : Below W6.heap.size W6 W6.drew := (Below.refl _ _).drew
                obtain ⟨A, hA⟩ : ∃ A, aclOf x.m.acl = A := ⟨_, rfl⟩
                replace hA : Aside _ := hA
                have hszN : (Tryd.prog.info? 34).map (·.size) = some 16 := by kernel_rfl
                refine wp_region_held_drew (S := (fun W => Below W6.heap.size W6 W)) (by kernel_rfl) (by exact hS0) ?_
                intro hHeld
                generalize W6.drew = w0 at *
                refine wpAnyH_take (i := 0) (v := ?_) (by simp only [gA, gB, gC]; rfl) (by kernel_rfl) (by kernel_rfl) (by kernel_rfl) (by exact fun _ _ _ h => h) (Or.inl ⟨by rfl, ?_⟩) (by assumption) ?_; rotate_left; (focus (intro w hSw; (try dsimp only at hSw); go_simp; try with_reducible rfl)); (try simp only [Act.put, sA, sB, sC])
                refine wpAnyH_take (i := 1) (v := ?_) (by simp only [gA, gB, gC]; rfl) (by kernel_rfl) (by kernel_rfl) (by kernel_rfl) (by exact fun _ _ _ h => h) (Or.inl ⟨by rfl, ?_⟩) (by assumption) ?_; rotate_left; (focus (intro w hSw; (try dsimp only at hSw); go_simp; try with_reducible rfl)); (try simp only [Act.put, sA, sB, sC])
                refine wpAnyH_take (i := 2) (v := _) (by simp only [gA, gB, gC]; rfl) (by kernel_rfl) (by kernel_rfl) (by kernel_rfl) (by exact fun _ _ _ h => h) (yields_cell (by rfl) _ rfl ⟨bm, 1, none⟩ rfl (.bool x.m.dir) (fun _ q => ((h4.then q).mb.1 1 _ rfl).1) boolG_load) (by assumption) ?_; (try simp only [Act.put, sA, sB, sC])
                refine wpAnyH_take (i := 3) (v := ?_) (by simp only [gA, gB, gC]; rfl) (by kernel_rfl) (by kernel_rfl) (by kernel_rfl) (by exact fun _ _ _ h => h) (Or.inl ⟨by rfl, ?_⟩) (by assumption) ?_; rotate_left; (focus (intro w hSw; (try dsimp only at hSw); go_simp; try with_reducible rfl)); (try simp only [Act.put, sA, sB, sC])
                refine wpAnyH_take (i := 4) (v := _) (by simp only [gA, gB, gC]; rfl) (by kernel_rfl) (by kernel_rfl) (by kernel_rfl) (by exact fun _ _ _ h => h) (yields_at (by rfl) _ rfl ⟨bd, 2, none⟩ rfl [.int .i64 d.n.label.s, .int .i64 d.n.label.c, .int .i64 d.n.label.i, .int .i64 d.n.label.k] (fun _ q => blk_at (h4.then q).db.1 (by intro j v hv; match j, hv with | 0, hv => exact hv | 1, hv => exact hv | 2, hv => exact hv | 3, hv => exact hv)) Tryd.underlying28 rfl hsl) (by assumption) ?_; (try simp only [Act.put, sA, sB, sC])
                refine wpAnyH_take (i := 5) (v := ?_) (by simp only [gA, gB, gC]; rfl) (by kernel_rfl) (by kernel_rfl) (by kernel_rfl) (by exact fun _ _ _ h => h) (Or.inl ⟨by rfl, ?_⟩) (by assumption) ?_; rotate_left; (focus (intro w hSw; (try dsimp only at hSw); go_simp; try with_reducible rfl)); (try simp only [Act.put, sA, sB, sC])
                refine wpAnyH_take (i := 6) (v := _) (by simp only [gA, gB, gC]; rfl) (by kernel_rfl) (by kernel_rfl) (by kernel_rfl) (by exact fun _ _ _ h => h) (yields_cell (by rfl) _ rfl ⟨bm, 6, none⟩ rfl (.slice x.aa x.m.acl.length x.ca) (fun _ q => ((h4.then q).mb.1 6 _ rfl).1) grs_load) (by assumption) ?_; (try simp only [Act.put, sA, sB, sC])
                refine wpAnyH_take (i := 8) (v := ?_) (by simp only [gA, gB, gC]; rfl) (by kernel_rfl) (by kernel_rfl) (by kernel_rfl) (by exact fun _ _ _ h => h) (Or.inl ⟨by rfl, ?_⟩) (by assumption) ?_; rotate_left; (focus (intro w hSw; (try dsimp only at hSw); go_simp; try with_reducible rfl)); (try simp only [Act.put, sA, sB, sC])
                refine wpAnyH_take (i := 9) (v := _) (by simp only [gA, gB, gC]; rfl) (by kernel_rfl) (by kernel_rfl) (by kernel_rfl) (by exact fun _ _ _ h => h) (yields_at (by rfl) _ rfl ⟨bm, 12, none⟩ rfl [.int .i64 x.m.by_.s, .int .i64 x.m.by_.c, .int .i64 x.m.by_.i, .int .i64 x.m.by_.k] (fun _ q => blk_at (h4.then q).mb.1 (by intro j v hv; match j, hv with | 0, hv => exact hv | 1, hv => exact hv | 2, hv => exact hv | 3, hv => exact hv)) Tryd.underlying28 rfl hsl) (by assumption) ?_; (try simp only [Act.put, sA, sB, sC])
                refine wpAnyH_ready (rs := [7, 12]) (by kernel_rfl) (by simp) ?_
                refine AllReadyH.cons (by simp only [gA, gB, gC]; rfl) (fun K hK => ?_) ?_
                · go_simp
                  go_at_call 22
                  refine (aclT_any _ _ x.m.acl _ (h4.then hS0).xa.g).mono ?_
                  rintro e w1 ⟨v7, rfl, hO1, hb⟩
                  rw [hA.out] at hO1
                  obtain ⟨aa, ca, hvv, -, -, -⟩ := OwnR.slice gr_okT.len hO1
                  subst hvv
                  have hS1 := Below.then hS0 hb
                  refine hK.out _ _ (hS1) ?_
                  clear hHeld hK
                  intro hHeld
                  (try simp only [Act.put, sA, sB, sC])
                  refine wpAnyH_ready (rs := [10, 12]) (by kernel_rfl) (by simp) ?_
                  refine AllReadyH.cons (by simp only [gA, gB, gC]; rfl) (fun K hK => ?_) ?_
                  · go_simp
                    go_at_call 18
                    refine (good_any x.m.by_ _).mono ?_
                    rintro e w2 ⟨rfl, hb⟩
                    have hS2 := Below.then hS1 hb
                    have hO2 := hO1.below hb
                    refine hK.out _ _ (hS2) ?_
                    clear hHeld hK
                    intro hHeld
                    (try simp only [Act.put, sA, sB, sC])
                    refine wpAnyH_take (i := 11) (v := ?_) (by simp only [gA, gB, gC]; rfl) (by kernel_rfl) (by kernel_rfl) (by kernel_rfl) (by exact fun _ _ _ h => h) (Or.inl ⟨by rfl, ?_⟩) (by assumption) ?_; rotate_left; (focus (intro w hSw; (try dsimp only at hSw); go_simp; try with_reducible rfl)); (try simp only [Act.put, sA, sB, sC])
                    refine wpAnyH_ready (rs := [12]) (by kernel_rfl) (by simp) ?_
                    refine AllReadyH.cons (by simp only [gA, gB, gC]; rfl) (fun K hK => ?_) AllReadyH.nil
                    go_simp
                    refine hK.out _ _ (Below.then hS2 (alloc_below _ _)) ?_
                    clear hHeld hK
                    intro hHeld
                    have hb := alloc_below w2 (.cells nzT 34)
                    have hbn3 := blkl_alloc w2 nzT 34
                    have hpb3 := hb
                    have hS3 := Below.then hS2 hb
                    have hO3 := hO2.below hb
                    generalize hwx : w2.alloc (.cells nzT 34) = w3 at *
                    clear hwx hb
                    (try simp only [Act.put, sA, sB, sC])
                    refine wpAnyH_ready (rs := [13]) (by kernel_rfl) (by simp) ?_
                    refine AllReadyH.cons (by simp only [gA, gB, gC]; rfl) (fun K hK => ?_) AllReadyH.nil
                    have hthz : w3.there w2.heap.size 0 ([.string p, .bool x.m.dir, .int .i64 d.n.label.s, .int .i64 d.n.label.c, .int .i64 d.n.label.i, .int .i64 d.n.label.k, .slice aa A.length ca, .int .i64 0, .int .i64 0, .int .i64 0, .int .i64 0, .slice none 0 0, .int .i64 (goodL x.m.by_).s, .int .i64 (goodL x.m.by_).c, .int .i64 (goodL x.m.by_).i, .int .i64 (goodL x.m.by_).k] : List Value).length := hbn3.1.there
                    obtain ⟨wz, hwz⟩ : ∃ wz, w3.setCells w2.heap.size 0 [.string p, .bool x.m.dir, .int .i64 d.n.label.s, .int .i64 d.n.label.c, .int .i64 d.n.label.i, .int .i64 d.n.label.k, .slice aa A.length ca, .int .i64 0, .int .i64 0, .int .i64 0, .int .i64 0, .slice none 0 0, .int .i64 (goodL x.m.by_).s, .int .i64 (goodL x.m.by_).c, .int .i64 (goodL x.m.by_).i, .int .i64 (goodL x.m.by_).k] = wz := ⟨_, rfl⟩
                    have hbz1 : Blk wz w2.heap.size [.string p, .bool x.m.dir, .int .i64 d.n.label.s, .int .i64 d.n.label.c, .int .i64 d.n.label.i, .int .i64 d.n.label.k, .slice aa A.length ca, .int .i64 0, .int .i64 0, .int .i64 0, .int .i64 0, .slice none 0 0, .int .i64 (goodL x.m.by_).s, .int .i64 (goodL x.m.by_).c, .int .i64 (goodL x.m.by_).i, .int .i64 (goodL x.m.by_).k] := by rw [← hwz]; exact hbn3.1.setAll rfl
                    have hbz : BlkL w2.heap.size [.string p, .bool x.m.dir, .int .i64 d.n.label.s, .int .i64 d.n.label.c, .int .i64 d.n.label.i, .int .i64 d.n.label.k, .slice aa A.length ca, .int .i64 0, .int .i64 0, .int .i64 0, .int .i64 0, .slice none 0 0, .int .i64 (goodL x.m.by_).s, .int .i64 (goodL x.m.by_).c, .int .i64 (goodL x.m.by_).i, .int .i64 (goodL x.m.by_).k] wz := ⟨hbz1, hbz1.lt rfl⟩
                    have hBz : Below w2.heap.size w2 wz := by rw [← hwz]; exact Below.cells (Nat.le_refl _) _ 0 hpb3
                    have hSz := Below.then hS2 hBz
                    have hO9 := hO2.below hBz
                    have hne9 : (Value.slice aa A.length ca).ownBlock ≠ some w2.heap.size := fun q => by have h1 := (hO2.lt q).2; omega
                    refine step_store_rowT rfl _ _ rfl w2.heap.size rfl [.string p, .bool x.m.dir, .int .i64 d.n.label.s, .int .i64 d.n.label.c, .int .i64 d.n.label.i, .int .i64 d.n.label.k, .slice aa A.length ca, .int .i64 0, .int .i64 0, .int .i64 0, .int .i64 0, .slice none 0 0, .int .i64 (goodL x.m.by_).s, .int .i64 (goodL x.m.by_).c, .int .i64 (goodL x.m.by_).i, .int .i64 (goodL x.m.by_).k] rfl hthz hszN (pn_one ⟨⟨p, x.m.dir, d.n.label, A, 0, 0, 0, 0, [], goodL x.m.by_⟩, aa, ca, none, 0⟩) hwz ?_
                    (try simp only [Act.put, sA, sB, sC])
                    refine hK.out _ _ (hSz) ?_
                    clear hHeld hK
                    intro hHeld
                    (try simp only [Act.put, sA, sB, sC])
                    refine wpAnyH_done (by kernel_rfl) ?_ _
                    go_wp2_with fail
                    go_meet
                    exact ⟨_, aa, ca, rfl, hSz, hS2.size, by rw [show nclT (nod0 d.n x.m) aa ca none 0 = [.string p, .bool x.m.dir, .int .i64 d.n.label.s, .int .i64 d.n.label.c, .int .i64 d.n.label.i, .int .i64 d.n.label.k, .slice aa A.length ca, .int .i64 0, .int .i64 0, .int .i64 0, .int .i64 0, .slice none 0 0, .int .i64 (goodL x.m.by_).s, .int .i64 (goodL x.m.by_).c, .int .i64 (goodL x.m.by_).i, .int .i64 (goodL x.m.by_).k] from by unfold nclT nod0; rw [hp.out, hA.out]; rfl]; exact hbz, by rw [hA.out]; exact hO9.lower hS0.size, by rw [hA.out]; exact hne9⟩
                  refine AllReadyH.cons (by simp only [gA, gB, gC]; rfl) (fun K hK => ?_) AllReadyH.nil
                  go_simp
                  refine hK.out _ _ (Below.then hS1 (alloc_below _ _)) ?_
                  clear hHeld hK
                  intro hHeld
                  have hb := alloc_below w1 (.cells nzT 34)
                  have hbn2 := blkl_alloc w1 nzT 34
                  have hpb2 := hb
                  have hS2 := Below.then hS1 hb
                  have hO2 := hO1.below hb
                  generalize hwx : w1.alloc (.cells nzT 34) = w2 at *
                  clear hwx hb
                  (try simp only [Act.put, sA, sB, sC])
                  refine wpAnyH_ready (rs := [10]) (by kernel_rfl) (by simp) ?_
                  refine AllReadyH.cons (by simp only [gA, gB, gC]; rfl) (fun K hK => ?_) AllReadyH.nil
                  go_simp
                  go_at_call 18
                  refine (good_any x.m.by_ _).mono ?_
                  rintro e w3 ⟨rfl, hb⟩
                  have hS3 := Below.then hS2 hb
                  have hO3 := hO2.below hb
                  have hbn3 := stab_blk _ _ _ _ hbn2 hb
                  have hpb3 := Below.then hpb2 hb
                  refine hK.out _ _ (hS3) ?_
                  clear hHeld hK
                  intro hHeld
                  (try simp only [Act.put, sA, sB, sC])
                  refine wpAnyH_take (i := 11) (v := ?_) (by simp only [gA, gB, gC]; rfl) (by kernel_rfl) (by kernel_rfl) (by kernel_rfl) (by exact fun _ _ _ h => h) (Or.inl ⟨by rfl, ?_⟩) (by assumption) ?_; rotate_left; (focus (intro w hSw; (try dsimp only at hSw); go_simp; try with_reducible rfl)); (try simp only [Act.put, sA, sB, sC])
                  refine wpAnyH_ready (rs := [13]) (by kernel_rfl) (by simp) ?_
                  refine AllReadyH.cons (by simp only [gA, gB, gC]; rfl) (fun K hK => ?_) AllReadyH.nil
                  have hthz : w3.there w1.heap.size 0 ([.string p, .bool x.m.dir, .int .i64 d.n.label.s, .int .i64 d.n.label.c, .int .i64 d.n.label.i, .int .i64 d.n.label.k, .slice aa A.length ca, .int .i64 0, .int .i64 0, .int .i64 0, .int .i64 0, .slice none 0 0, .int .i64 (goodL x.m.by_).s, .int .i64 (goodL x.m.by_).c, .int .i64 (goodL x.m.by_).i, .int .i64 (goodL x.m.by_).k] : List Value).length := hbn3.1.there
                  obtain ⟨wz, hwz⟩ : ∃ wz, w3.setCells w1.heap.size 0 [.string p, .bool x.m.dir, .int .i64 d.n.label.s, .int .i64 d.n.label.c, .int .i64 d.n.label.i, .int .i64 d.n.label.k, .slice aa A.length ca, .int .i64 0, .int .i64 0, .int .i64 0, .int .i64 0, .slice none 0 0, .int .i64 (goodL x.m.by_).s, .int .i64 (goodL x.m.by_).c, .int .i64 (goodL x.m.by_).i, .int .i64 (goodL x.m.by_).k] = wz := ⟨_, rfl⟩
                  have hbz1 : Blk wz w1.heap.size [.string p, .bool x.m.dir, .int .i64 d.n.label.s, .int .i64 d.n.label.c, .int .i64 d.n.label.i, .int .i64 d.n.label.k, .slice aa A.length ca, .int .i64 0, .int .i64 0, .int .i64 0, .int .i64 0, .slice none 0 0, .int .i64 (goodL x.m.by_).s, .int .i64 (goodL x.m.by_).c, .int .i64 (goodL x.m.by_).i, .int .i64 (goodL x.m.by_).k] := by rw [← hwz]; exact hbn3.1.setAll rfl
                  have hbz : BlkL w1.heap.size [.string p, .bool x.m.dir, .int .i64 d.n.label.s, .int .i64 d.n.label.c, .int .i64 d.n.label.i, .int .i64 d.n.label.k, .slice aa A.length ca, .int .i64 0, .int .i64 0, .int .i64 0, .int .i64 0, .slice none 0 0, .int .i64 (goodL x.m.by_).s, .int .i64 (goodL x.m.by_).c, .int .i64 (goodL x.m.by_).i, .int .i64 (goodL x.m.by_).k] wz := ⟨hbz1, hbz1.lt rfl⟩
                  have hBz : Below w1.heap.size w1 wz := by rw [← hwz]; exact Below.cells (Nat.le_refl _) _ 0 hpb3
                  have hSz := Below.then hS1 hBz
                  have hO9 := hO1.below hBz
                  have hne9 : (Value.slice aa A.length ca).ownBlock ≠ some w1.heap.size := fun q => by have h1 := (hO1.lt q).2; omega
                  refine step_store_rowT rfl _ _ rfl w1.heap.size rfl [.string p, .bool x.m.dir, .int .i64 d.n.label.s, .int .i64 d.n.label.c, .int .i64 d.n.label.i, .int .i64 d.n.label.k, .slice aa A.length ca, .int .i64 0, .int .i64 0, .int .i64 0, .int .i64 0, .slice none 0 0, .int .i64 (goodL x.m.by_).s, .int .i64 (goodL x.m.by_).c, .int .i64 (goodL x.m.by_).i, .int .i64 (goodL x.m.by_).k] rfl hthz hszN (pn_one ⟨⟨p, x.m.dir, d.n.label, A, 0, 0, 0, 0, [], goodL x.m.by_⟩, aa, ca, none, 0⟩) hwz ?_
                  (try simp only [Act.put, sA, sB, sC])
                  refine hK.out _ _ (hSz) ?_
                  clear hHeld hK
                  intro hHeld
                  (try simp only [Act.put, sA, sB, sC])
                  refine wpAnyH_done (by kernel_rfl) ?_ _
                  go_wp2_with fail
                  go_meet
                  exact ⟨_, aa, ca, rfl, hSz, hS1.size, by rw [show nclT (nod0 d.n x.m) aa ca none 0 = [.string p, .bool x.m.dir, .int .i64 d.n.label.s, .int .i64 d.n.label.c, .int .i64 d.n.label.i, .int .i64 d.n.label.k, .slice aa A.length ca, .int .i64 0, .int .i64 0, .int .i64 0, .int .i64 0, .slice none 0 0, .int .i64 (goodL x.m.by_).s, .int .i64 (goodL x.m.by_).c, .int .i64 (goodL x.m.by_).i, .int .i64 (goodL x.m.by_).k] from by unfold nclT nod0; rw [hp.out, hA.out]; rfl]; exact hbz, by rw [hA.out]; exact hO9.lower hS0.size, by rw [hA.out]; exact hne9⟩
                refine AllReadyH.cons (by simp only [gA, gB, gC]; rfl) (fun K hK => ?_) AllReadyH.nil
                go_simp
                refine hK.out _ _ (Below.then hS0 (alloc_below _ _)) ?_
                clear hHeld hK
                intro hHeld
                have hb := alloc_below w0 (.cells nzT 34)
                have hbn1 := blkl_alloc w0 nzT 34
                have hpb1 := hb
                have hS1 := Below.then hS0 hb
                generalize hwx : w0.alloc (.cells nzT 34) = w1 at *
                clear hwx hb
                (try simp only [Act.put, sA, sB, sC])
                refine wpAnyH_ready (rs := [7]) (by kernel_rfl) (by simp) ?_
                refine AllReadyH.cons (by simp only [gA, gB, gC]; rfl) (fun K hK => ?_) AllReadyH.nil
                go_simp
                go_at_call 22
                refine (aclT_any _ _ x.m.acl _ (h4.then hS1).xa.g).mono ?_
                rintro e w2 ⟨v7, rfl, hO2, hb⟩
                rw [hA.out] at hO2
                obtain ⟨aa, ca, hvv, -, -, -⟩ := OwnR.slice gr_okT.len hO2
                subst hvv
                have hS2 := Below.then hS1 hb
                have hbn2 := stab_blk _ _ _ _ hbn1 hb
                have hpb2 := Below.then hpb1 hb
                refine hK.out _ _ (hS2) ?_
                clear hHeld hK
                intro hHeld
                (try simp only [Act.put, sA, sB, sC])
                refine wpAnyH_ready (rs := [10]) (by kernel_rfl) (by simp) ?_
                refine AllReadyH.cons (by simp only [gA, gB, gC]; rfl) (fun K hK => ?_) AllReadyH.nil
                go_simp
                go_at_call 18
                refine (good_any x.m.by_ _).mono ?_
                rintro e w3 ⟨rfl, hb⟩
                have hS3 := Below.then hS2 hb
                have hO3 := hO2.below hb
                have hbn3 := stab_blk _ _ _ _ hbn2 hb
                have hpb3 := Below.then hpb2 hb
                refine hK.out _ _ (hS3) ?_
                clear hHeld hK
                intro hHeld
                (try simp only [Act.put, sA, sB, sC])
                refine wpAnyH_take (i := 11) (v := ?_) (by simp only [gA, gB, gC]; rfl) (by kernel_rfl) (by kernel_rfl) (by kernel_rfl) (by exact fun _ _ _ h => h) (Or.inl ⟨by rfl, ?_⟩) (by assumption) ?_; rotate_left; (focus (intro w hSw; (try dsimp only at hSw); go_simp; try with_reducible rfl)); (try simp only [Act.put, sA, sB, sC])
                refine wpAnyH_ready (rs := [13]) (by kernel_rfl) (by simp) ?_
                refine AllReadyH.cons (by simp only [gA, gB, gC]; rfl) (fun K hK => ?_) AllReadyH.nil
                have hthz : w3.there w0.heap.size 0 ([.string p, .bool x.m.dir, .int .i64 d.n.label.s, .int .i64 d.n.label.c, .int .i64 d.n.label.i, .int .i64 d.n.label.k, .slice aa A.length ca, .int .i64 0, .int .i64 0, .int .i64 0, .int .i64 0, .slice none 0 0, .int .i64 (goodL x.m.by_).s, .int .i64 (goodL x.m.by_).c, .int .i64 (goodL x.m.by_).i, .int .i64 (goodL x.m.by_).k] : List Value).length := hbn3.1.there
                obtain ⟨wz, hwz⟩ : ∃ wz, w3.setCells w0.heap.size 0 [.string p, .bool x.m.dir, .int .i64 d.n.label.s, .int .i64 d.n.label.c, .int .i64 d.n.label.i, .int .i64 d.n.label.k, .slice aa A.length ca, .int .i64 0, .int .i64 0, .int .i64 0, .int .i64 0, .slice none 0 0, .int .i64 (goodL x.m.by_).s, .int .i64 (goodL x.m.by_).c, .int .i64 (goodL x.m.by_).i, .int .i64 (goodL x.m.by_).k] = wz := ⟨_, rfl⟩
                have hbz1 : Blk wz w0.heap.size [.string p, .bool x.m.dir, .int .i64 d.n.label.s, .int .i64 d.n.label.c, .int .i64 d.n.label.i, .int .i64 d.n.label.k, .slice aa A.length ca, .int .i64 0, .int .i64 0, .int .i64 0, .int .i64 0, .slice none 0 0, .int .i64 (goodL x.m.by_).s, .int .i64 (goodL x.m.by_).c, .int .i64 (goodL x.m.by_).i, .int .i64 (goodL x.m.by_).k] := by rw [← hwz]; exact hbn3.1.setAll rfl
                have hbz : BlkL w0.heap.size [.string p, .bool x.m.dir, .int .i64 d.n.label.s, .int .i64 d.n.label.c, .int .i64 d.n.label.i, .int .i64 d.n.label.k, .slice aa A.length ca, .int .i64 0, .int .i64 0, .int .i64 0, .int .i64 0, .slice none 0 0, .int .i64 (goodL x.m.by_).s, .int .i64 (goodL x.m.by_).c, .int .i64 (goodL x.m.by_).i, .int .i64 (goodL x.m.by_).k] wz := ⟨hbz1, hbz1.lt rfl⟩
                have hBz : Below w0.heap.size w0 wz := by rw [← hwz]; exact Below.cells (Nat.le_refl _) _ 0 hpb3
                have hSz := Below.then hS0 hBz
                have hne9 : (Value.slice aa A.length ca).ownBlock ≠ some w0.heap.size := fun q => by have h1 := (hO3.lt q).1; have h2 := hbn1.2; omega
                have hO9 : OwnGr wz w1.heap.size (.slice aa A.length ca) A := by rw [← hwz]; exact hO3.setAll hne9 _
                refine step_store_rowT rfl _ _ rfl w0.heap.size rfl [.string p, .bool x.m.dir, .int .i64 d.n.label.s, .int .i64 d.n.label.c, .int .i64 d.n.label.i, .int .i64 d.n.label.k, .slice aa A.length ca, .int .i64 0, .int .i64 0, .int .i64 0, .int .i64 0, .slice none 0 0, .int .i64 (goodL x.m.by_).s, .int .i64 (goodL x.m.by_).c, .int .i64 (goodL x.m.by_).i, .int .i64 (goodL x.m.by_).k] rfl hthz hszN (pn_one ⟨⟨p, x.m.dir, d.n.label, A, 0, 0, 0, 0, [], goodL x.m.by_⟩, aa, ca, none, 0⟩) hwz ?_
                (try simp only [Act.put, sA, sB, sC])
                refine hK.out _ _ (hSz) ?_
                clear hHeld hK
                intro hHeld
                (try simp only [Act.put, sA, sB, sC])
                refine wpAnyH_done (by kernel_rfl) ?_ _
                go_wp2_with fail
                go_meet
                exact ⟨_, aa, ca, rfl, hSz, hS0.size, by rw [show nclT (nod0 d.n x.m) aa ca none 0 = [.string p, .bool x.m.dir, .int .i64 d.n.label.s, .int .i64 d.n.label.c, .int .i64 d.n.label.i, .int .i64 d.n.label.k, .slice aa A.length ca, .int .i64 0, .int .i64 0, .int .i64 0, .int .i64 0, .slice none 0 0, .int .i64 (goodL x.m.by_).s, .int .i64 (goodL x.m.by_).c, .int .i64 (goodL x.m.by_).i, .int .i64 (goodL x.m.by_).k] from by unfold nclT nod0; rw [hp.out, hA.out]; rfl]; exact hbz, by rw [hA.out]; exact hO9.lower hS1.size, by rw [hA.out]; exact hne9⟩
              case rest =>
                obtain ⟨bn, aa, ca, rfl, hB7, hbn, hN, hO, hne⟩ := hcut
                have h4c := h4.then hB7
                have hm1 := (h4c.mb.1 1 _ rfl).1
                have hsz4 : (Tryd.prog.info? 31).map (·.size) = some 4 := by kernel_rfl
                cases hdir : x.m.dir
                · rw [hdir] at hm1
                  have hrg : CellsAt wc ⟨bm, 7, none⟩ [.int .i64 x.m.rings.a, .int .i64 x.m.rings.b, .int .i64 x.m.rings.c, .int .i64 x.m.rings.g] := blk_at h4c.mb.1 (by intro j v hv; match j, hv with | 0, hv => exact hv | 1, hv => exact hv | 2, hv => exact hv | 3, hv => exact hv)
                  go_wp2_with (first | (refine wpList_load_at rfl _ rfl ⟨bm, 7, none⟩ rfl [.int .i64 x.m.rings.a, .int .i64 x.m.rings.b, .int .i64 x.m.rings.c, .int .i64 x.m.rings.g] hrg Tryd.underlying31 rfl hsz4 ?_) | fail)
                  refine (rggood_any x.m.rings wc).mono ?_
                  rintro e W8 ⟨rfl, hb8⟩
                  obtain ⟨W9, hW9, hth9, hN9, hB9⟩ := put_mid (stab_blk _ _ _ _ hN hb8) 7 [.int .i64 (goodR x.m.rings).a, .int .i64 (goodR x.m.rings).b, .int .i64 (goodR x.m.rings).c, .int .i64 (goodR x.m.rings).g] (by simp [nclT]) (by simp [nclT]) (Below.then hB7 hb8) hbn
                  have hO9 : OwnGr W9 W6.heap.size (.slice aa (aclOf x.m.acl).length ca) (aclOf x.m.acl) := by rw [← hW9]; exact (hO.below hb8).mid hne 7 _
                  obtain ⟨nn, hnn⟩ : ∃ nn : Nod, nn = ⟨mkPath x.m, false, d.n.label, aclOf x.m.acl, (goodR x.m.rings).a, (goodR x.m.rings).b, (goodR x.m.rings).c, (goodR x.m.rings).g, [], goodL x.m.by_⟩ := ⟨_, rfl⟩
                  have hgw0 : GW W6 W9 bn nn aa ca (.slice none 0 0) [] := by
                    subst hnn
                    refine ⟨OwnR.nil _ _ _ _ _, hB9, hbn, hO9, hne, by simp [Value.ownBlock], fun g _ => by simp [Value.ownBlock], ?_⟩
                    have e : setM (nclT (nod0 d.n x.m) aa ca none 0) 7 [.int .i64 (goodR x.m.rings).a, .int .i64 (goodR x.m.rings).b, .int .i64 (goodR x.m.rings).c, .int .i64 (goodR x.m.rings).g] = cellsW ⟨mkPath x.m, false, d.n.label, aclOf x.m.acl, (goodR x.m.rings).a, (goodR x.m.rings).b, (goodR x.m.rings).c, (goodR x.m.rings).g, [], goodL x.m.by_⟩ aa ca (.slice none 0 0) := by
                      unfold nclT nod0 cellsW
                      rw [hdir]
                      rfl
                    rw [← e]
                    exact hN9
                  have hone4 : ∀ v ∈ ([.int .i64 (goodR x.m.rings).a, .int .i64 (goodR x.m.rings).b, .int .i64 (goodR x.m.rings).c, .int .i64 (goodR x.m.rings).g] : List Value), v.oneCell' = true := by intro v hv; simp at hv; rcases hv with rfl | rfl | rfl | rfl <;> rfl
                  have hfin0 : mkN d.n x.m = { nn with words := x.m.words.take 16 } := by subst hnn; unfold mkN; rw [hdir]; simp
                  replace hfin0 : Aside _ := hfin0
                  clear hN hO hB7 hb8 hrg h4c hm1 hN9 hO9 hnn
                  go_upto_block 4 with (first | (refine wpList_store_part rfl _ _ rfl bn 7 rfl [.int .i64 (goodR x.m.rings).a, .int .i64 (goodR x.m.rings).b, .int .i64 (goodR x.m.rings).c, .int .i64 (goodR x.m.rings).g] rfl hth9 hsz4 hone4 hW9 ?_) | fail)
                  clear hth9 hW9 hone4
                  go_cut [16] from 39 to 129 (fun s16 wq => ∃ v, GW W6 wq bn nn aa ca v (x.m.words.take 16))
                  case first =>
                    obtain ⟨m2, hm2⟩ : ∃ m2, x.m.words.length = m2 := ⟨_, rfl⟩
                    replace hm2 : Aside (x.m.words.length = m2) := hm2
                    go_wp2_with fail
                    go_loopw [16] (fun t16 wr => ∃ k : Nat, k ≤ m2 ∧ k ≤ 16 ∧ t16 = .int .i64 (k : Int) ∧ ∃ v, GW W6 wr bn nn aa ca v (x.m.words.take k)) (fun t16 _ => 16 - (Go.RowKit.intOf t16).toNat)
                    case atStart => exact ⟨0, by omega, by omega, rfl, _, by simpa using hgw0⟩
                    case round =>
                      clear hgw0
                      obtain ⟨k, hk, hk16, rfl, v, hgw⟩ := hrel
                      have hmw := ((h4.then hgw.b).mb.1 11 _ rfl).1
                      rw [hm2.out] at hmw
                      by_cases hlk : k < m2 ∧ k < 16
                      · obtain ⟨qv, hqv⟩ : ∃ qv, x.m.words[k]? = some qv := ⟨_, List.getElem?_eq_getElem (by rw [hm2.out]; exact hlk.1)⟩
                        obtain ⟨yw, hyw, -⟩ := h4.xa.w k qv hqv
                        have hword : ∀ W, Below W6.heap.size W6 W → W.cell? (yw.add k) = some (.int .i64 qv) := fun W q => by
                          obtain ⟨y', hy', hc'⟩ := (h4.then q).xa.w k qv hqv
                          rw [hyw] at hy'
                          obtain rfl := Option.some.inj hy'
                          exact hc'
                        rw [hyw] at hmw
                        have hwt : x.m.words.take (k + 1) = x.m.words.take k ++ [qv] := by rw [List.take_add_one, hqv]; rfl
                        replace hwt : Aside _ := hwt
                        replace hyw : Aside _ := hyw
                        have hg0 : GW W6 wr.drew bn nn aa ca v (x.m.words.take k) := hgw.then (Below.refl _ _).drew
                        have j1 : (k : Int) < (m2 : Int) := by omega
                        have j2 : (k : Int) < 16 := by omega
                        clear hqv hgw
                        go_wp2_with fail
                        refine wp_region_held_drew (S := (fun W => Below W6.heap.size W6 W)) (by kernel_rfl) (by exact hg0.b) ?_
                        intro hHeld
                        generalize wr.drew = w0 at *
                        refine wpAnyH_take (i := 0) (v := ?_) (by simp only [gA, gB, gC]; rfl) (by kernel_rfl) (by kernel_rfl) (by kernel_rfl) (by exact fun _ _ _ h => h) (Or.inl ⟨by rfl, ?_⟩) (by assumption) ?_; rotate_left; (focus (intro w hSw; (try dsimp only at hSw); go_simp; try with_reducible rfl)); (try simp only [Act.put, sA, sB, sC])
                        refine wpAnyH_take (i := 2) (v := ?_) (by simp only [gA, gB, gC]; rfl) (by kernel_rfl) (by kernel_rfl) (by kernel_rfl) (by exact fun _ _ _ h => h) (Or.inl ⟨by rfl, ?_⟩) (by assumption) ?_; rotate_left; (focus (intro w hSw; (try dsimp only at hSw); go_simp; try with_reducible rfl)); (try simp only [Act.put, sA, sB, sC])
                        refine wpAnyH_take (i := 3) (v := _) (by simp only [gA, gB, gC]; rfl) (by kernel_rfl) (by kernel_rfl) (by kernel_rfl) (by exact fun _ _ _ h => h) (yields_cell (by rfl) _ rfl ⟨bm, 11, none⟩ rfl (.slice (some yw) m2 x.cw) (fun _ q => by have := ((h4.then q).mb.1 11 _ rfl).1; rw [hyw.out, hm2.out] at this; exact this) wds_load) (by assumption) ?_; (try simp only [Act.put, sA, sB, sC])
                        refine wpAnyH_take (i := 4) (v := ?_) (by simp only [gA, gB, gC]; rfl) (by kernel_rfl) (by kernel_rfl) (by kernel_rfl) (by exact fun _ _ _ h => h) (Or.inl ⟨by rfl, ?_⟩) (by assumption) ?_; rotate_left; (focus (intro w hSw; (try dsimp only at hSw); go_simp; try with_reducible rfl)); (try simp only [Act.put, sA, sB, sC])
                        refine wpAnyH_take (i := 5) (v := ?_) (by simp only [gA, gB, gC]; rfl) (by kernel_rfl) (by kernel_rfl) (by kernel_rfl) (by exact fun _ _ _ h => h) (Or.inl ⟨by rfl, ?_⟩) (by assumption) ?_; rotate_left; (focus (intro w hSw; (try dsimp only at hSw); go_simp; try with_reducible rfl)); (try simp only [Act.put, sA, sB, sC])
                        refine wpAnyH_take (i := 6) (v := _) (by simp only [gA, gB, gC]; rfl) (by kernel_rfl) (by kernel_rfl) (by kernel_rfl) (by exact fun _ _ _ h => h) (yields_cell (by rfl) _ rfl (yw.add k) rfl (.int .i64 qv) (fun _ q => hword _ q) i64_load) (by assumption) ?_; (try simp only [Act.put, sA, sB, sC])
                        refine wpAnyH_ready (rs := [1, 7]) (by kernel_rfl) (by simp) ?_
                        refine AllReadyH.cons (by simp only [gA, gB, gC]; rfl) (fun K hK => ?_) ?_
                        · skip
                          have hcf := (hg0.k.1 11 _ rfl).1
                          go_simp
                          refine hK.out _ _ (hg0.b) ?_
                          clear hHeld hK
                          intro hHeld
                          obtain ⟨w1, hww⟩ : ∃ w', w' = w0 := ⟨_, rfl⟩
                          subst hww
                          have hg1 := hg0
                          (try simp only [Act.put, sA, sB, sC])
                          refine wpAnyH_ready (rs := [7]) (by kernel_rfl) (by simp) ?_
                          refine AllReadyH.cons (by simp only [gA, gB, gC]; rfl) (fun K hK => ?_) AllReadyH.nil
                          go_simp
                          refine hK.out _ _ (Below.then hg1.b (alloc_below _ _)) ?_
                          clear hHeld hK
                          intro hHeld
                          obtain ⟨vz, wz, hap, hoz, hgz⟩ := OwnR.push wd_okT hg1.o hg1.b.size qv #[.int .i64 qv] rfl 2 (by rw [List.length_take]; omega)
                          obtain ⟨hkz, hBz, hGz⟩ := hg1.push hgz hoz
                          have hg2 := hg1.then (alloc_below w1 (.cells #[.int .i64 qv] 2))
                          obtain ⟨w2, hww⟩ : ∃ w', w1.alloc (.cells #[.int .i64 qv] 2) = w' := ⟨_, rfl⟩
                          rw [hww] at hg2 hap hHeld ⊢
                          clear hww
                          (try simp only [Act.put, sA, sB, sC])
                          refine wpAnyH_ready (rs := [8]) (by kernel_rfl) (by simp) ?_
                          refine AllReadyH.cons (by simp only [gA, gB, gC]; rfl) (fun K hK => ?_) AllReadyH.nil
                          refine step_append rfl _ _ rfl rfl rfl rfl hap ?_
                          (try simp only [Act.put, sA, sB, sC])
                          refine hK.out _ _ (hBz) ?_
                          clear hHeld hK
                          intro hHeld
                          obtain ⟨hcz1, hcz2⟩ := hkz.1 11 _ rfl
                          obtain ⟨av, cv, hvv, -, -, -⟩ := OwnR.slice wd_okT.len hoz
                          generalize (x.m.words.take k ++ [qv]).length = lz at hvv
                          subst hvv
                          (try simp only [Act.put, sA, sB, sC])
                          refine wpAnyH_take (i := 9) (v := ?_) (by simp only [gA, gB, gC]; rfl) (by kernel_rfl) (by kernel_rfl) (by kernel_rfl) (by exact fun _ _ _ h => h) (Or.inl ⟨by rfl, ?_⟩) (by assumption) ?_; rotate_left; (focus (intro w hSw; (try dsimp only at hSw); go_simp; try with_reducible rfl)); (try simp only [Act.put, sA, sB, sC])
                          refine wpAnyH_ready (rs := [10]) (by kernel_rfl) (by simp) ?_
                          refine AllReadyH.cons (by simp only [gA, gB, gC]; rfl) (fun K hK => ?_) AllReadyH.nil
                          go_simp
                          refine hK.out _ _ (hGz.b) ?_
                          clear hHeld hK
                          intro hHeld
                          (try simp only [Act.put, sA, sB, sC])
                          refine wpAnyH_done (by kernel_rfl) ?_ _
                          go_wp2_with fail
                          exact ⟨⟨k + 1, by omega, by omega, by simp, _, by rw [hwt.out]; exact hGz⟩, by simp [Go.RowKit.intOf]; omega⟩
                        refine AllReadyH.cons (by simp only [gA, gB, gC]; rfl) (fun K hK => ?_) AllReadyH.nil
                        go_simp
                        refine hK.out _ _ (Below.then hg0.b (alloc_below _ _)) ?_
                        clear hHeld hK
                        intro hHeld
                        obtain ⟨vz, wz, hap, hoz, hgz⟩ := OwnR.push wd_okT hg0.o hg0.b.size qv #[.int .i64 qv] rfl 2 (by rw [List.length_take]; omega)
                        obtain ⟨hkz, hBz, hGz⟩ := hg0.push hgz hoz
                        have hg1 := hg0.then (alloc_below w0 (.cells #[.int .i64 qv] 2))
                        obtain ⟨w1, hww⟩ : ∃ w', w0.alloc (.cells #[.int .i64 qv] 2) = w' := ⟨_, rfl⟩
                        rw [hww] at hg1 hap hHeld ⊢
                        clear hww
                        (try simp only [Act.put, sA, sB, sC])
                        refine wpAnyH_ready (rs := [1]) (by kernel_rfl) (by simp) ?_
                        refine AllReadyH.cons (by simp only [gA, gB, gC]; rfl) (fun K hK => ?_) AllReadyH.nil
                        have hcf := (hg1.k.1 11 _ rfl).1
                        go_simp
                        refine hK.out _ _ (hg1.b) ?_
                        clear hHeld hK
                        intro hHeld
                        obtain ⟨w2, hww⟩ : ∃ w', w' = w1 := ⟨_, rfl⟩
                        subst hww
                        have hg2 := hg1
                        (try simp only [Act.put, sA, sB, sC])
                        refine wpAnyH_ready (rs := [8]) (by kernel_rfl) (by simp) ?_
                        refine AllReadyH.cons (by simp only [gA, gB, gC]; rfl) (fun K hK => ?_) AllReadyH.nil
                        refine step_append rfl _ _ rfl rfl rfl rfl hap ?_
                        (try simp only [Act.put, sA, sB, sC])
                        refine hK.out _ _ (hBz) ?_
                        clear hHeld hK
                        intro hHeld
                        obtain ⟨hcz1, hcz2⟩ := hkz.1 11 _ rfl
                        obtain ⟨av, cv, hvv, -, -, -⟩ := OwnR.slice wd_okT.len hoz
                        generalize (x.m.words.take k ++ [qv]).length = lz at hvv
                        subst hvv
                        (try simp only [Act.put, sA, sB, sC])
                        refine wpAnyH_take (i := 9) (v := ?_) (by simp only [gA, gB, gC]; rfl) (by kernel_rfl) (by kernel_rfl) (by kernel_rfl) (by exact fun _ _ _ h => h) (Or.inl ⟨by rfl, ?_⟩) (by assumption) ?_; rotate_left; (focus (intro w hSw; (try dsimp only at hSw); go_simp; try with_reducible rfl)); (try simp only [Act.put, sA, sB, sC])
                        refine wpAnyH_ready (rs := [10]) (by kernel_rfl) (by simp) ?_
                        refine AllReadyH.cons (by simp only [gA, gB, gC]; rfl) (fun K hK => ?_) AllReadyH.nil
                        go_simp
                        refine hK.out _ _ (hGz.b) ?_
                        clear hHeld hK
                        intro hHeld
                        (try simp only [Act.put, sA, sB, sC])
                        refine wpAnyH_done (by kernel_rfl) ?_ _
                        go_wp2_with fail
                        exact ⟨⟨k + 1, by omega, by omega, by simp, _, by rw [hwt.out]; exact hGz⟩, by simp [Go.RowKit.intOf]; omega⟩
                      · have hend : x.m.words.take k = x.m.words.take 16 := by
                          have hmm := hm2.out
                          by_cases h16 : k = 16
                          · rw [h16]
                          · rw [List.take_of_length_le (by omega), List.take_of_length_le (by omega)]
                        rw [hend] at hgw
                        by_cases hin : k < m2
                        · obtain rfl : k = 16 := by omega
                          have j1 : ((16 : Nat) : Int) < (m2 : Int) := by omega
                          go_wp2_with fail
                          go_meet
                          exact ⟨v, hgw⟩
                        · obtain rfl : k = m2 := by omega
                          go_wp2_with fail
                          go_meet
                          exact ⟨v, hgw⟩
                  case rest =>
                    obtain ⟨v, hgw⟩ := hcut
                    obtain ⟨wa, cw, hvv, -, -, hwr⟩ := OwnR.slice wd_okT.len hgw.o
                    subst hvv
                    obtain ⟨y, hy⟩ : ∃ y : PN, y = ⟨{ nn with words := x.m.words.take 16 }, aa, ca, wa, cw⟩ := ⟨_, rfl⟩
                    have hyn : y.n = mkN d.n x.m := by rw [hfin0.out, hy]
                    have hyk : BlkL bn y.cs wc := by rw [hy]; exact hgw.k
                    have hyA : y.At wc := by
                      rw [hy]
                      obtain ⟨a9, c9, he9, -, -, hr9⟩ := OwnR.slice gr_okT.len hgw.a
                      cases he9
                      exact ⟨row_grs hr9, row_wrds hwr⟩
                    have hyB : PN.Abv w.heap.size y := by
                      rw [hy]
                      exact ⟨fun q hq => Nat.le_trans h4.g.b.size (own_abv hgw.a q hq), fun q hq => Nat.le_trans h4.g.b.size (own_abv hgw.o q hq)⟩
                    have hgb := hgw.b
                    clear hgw hwr hy hfin0
                    have hT9 := h4.then hgb
                    have hrn9 : RowN wc va l := ⟨by obtain ⟨va', vc', hvv, -, -, hr'⟩ := OwnR.slice pn_ok.len hT9.g.o; cases hvv; exact hr', hT9.g.p⟩
                    have hyr := hyk.range
                    have hung := Tryd.underlying34
                    have hszY : (Tryd.prog.info? 34).map (·.size) = some y.cs.length := by rw [pn_len]; kernel_rfl
                    have hpl := put_len l y
                    have hgi := fun v9 W9 (q : OwnN W9 wc.heap.size v9 (putP l y)) (b : Below wc.heap.size wc W9) => grown_GI hT9.g hyA hyB q b
                    have hfin : Aside (((ms.map (·.m)).take (i + 1)).foldl growStep (firstN L) = namesP (putP l y)) := by show _ = _; rw [put_names, hyn, hT.out]; exact hst'.out
                    clear h4 hT9
                    go_wp2_with (first | (refine wpList_load_row rfl _ rfl bn rfl y.cs hyr hung rfl hszY ?_) | fail)
                    refine (rputT_any va vc l y (by omega) wc hrn9).mono ?_
                    rintro e W9 ⟨v9, rfl, ho9, hB9⟩
                    have g9 := hgi v9 W9 ho9 hB9
                    clear hgi hrn9 hyr ho9
                    go_wp2_with fail
                    exact ⟨⟨i + 1, putP l y, by omega, by omega, by simp, g9, by omega, hfin⟩, by simp [Go.RowKit.intOf]; omega⟩
                · rw [hdir] at hm1
                  have hNd : BlkL bn (nclT (nod0 d.n x.m) aa ca none 0) wc.drew := hN
                  have hOd : OwnGr wc.drew W6.heap.size (.slice aa (aclOf x.m.acl).length ca) (aclOf x.m.acl) := hO.below (Below.refl _ _).drew
                  have hS0 : Below W6.heap.size W6 wc.drew := hB7.drew
                  have hone4 : ∀ v ∈ ([.int .i64 (joinL d.n.label (goodL x.m.up)).s, .int .i64 (joinL d.n.label (goodL x.m.up)).c, .int .i64 (joinL d.n.label (goodL x.m.up)).i, .int .i64 (joinL d.n.label (goodL x.m.up)).k] : List Value), v.oneCell' = true := by intro v hv; simp at hv; rcases hv with rfl | rfl | rfl | rfl <;> rfl
                  clear hN hO hB7 h4c
                  go_wp2_with fail
                  refine wp_region_held_drew (S := (fun W => Below W6.heap.size W6 W)) (by kernel_rfl) (by first | exact hSz | exact hS2 | exact hS1 | exact hS0) ?_
                  intro hHeld
                  (first | (refine wpAnyH_take (i := 0) (v := ?_) (by simp only [gA, gB, gC]; rfl) (by kernel_rfl) (by kernel_rfl) (by kernel_rfl) (by exact fun _ _ _ h => h) (Or.inl ⟨by rfl, ?_⟩) (by assumption) ?_; rotate_left; (focus (intro w hSw; (try dsimp only at hSw); go_simp; try with_reducible rfl))) | (refine wpAnyH_take (i := 0) (v := undef) (by simp only [gA, gB, gC]; rfl) (by kernel_rfl) (by kernel_rfl) (by kernel_rfl) (by exact fun _ _ _ h => h) (Or.inr ⟨by rfl, rfl⟩) (by assumption) ?_) | fail); simp only [Act.put, sA, sB, sC]
                  (first | (refine wpAnyH_take (i := 1) (v := _) (by simp only [gA, gB, gC]; rfl) (by kernel_rfl) (by kernel_rfl) (by kernel_rfl) (by exact fun _ _ _ h => h) (yields_at (by rfl) _ rfl ⟨bd, 2, none⟩ rfl [.int .i64 d.n.label.s, .int .i64 d.n.label.c, .int .i64 d.n.label.i, .int .i64 d.n.label.k] (fun _ q => blk_four (h4.then q).db.1 rfl rfl rfl rfl) Tryd.underlying28 rfl hsl) (by assumption) ?_) | (refine wpAnyH_take (i := 1) (v := undef) (by simp only [gA, gB, gC]; rfl) (by kernel_rfl) (by kernel_rfl) (by kernel_rfl) (by exact fun _ _ _ h => h) (Or.inr ⟨by rfl, rfl⟩) (by assumption) ?_) | fail); simp only [Act.put, sA, sB, sC]
                  (first | (refine wpAnyH_take (i := 2) (v := ?_) (by simp only [gA, gB, gC]; rfl) (by kernel_rfl) (by kernel_rfl) (by kernel_rfl) (by exact fun _ _ _ h => h) (Or.inl ⟨by rfl, ?_⟩) (by assumption) ?_; rotate_left; (focus (intro w hSw; (try dsimp only at hSw); go_simp; try with_reducible rfl))) | (refine wpAnyH_take (i := 2) (v := undef) (by simp only [gA, gB, gC]; rfl) (by kernel_rfl) (by kernel_rfl) (by kernel_rfl) (by exact fun _ _ _ h => h) (Or.inr ⟨by rfl, rfl⟩) (by assumption) ?_) | fail); simp only [Act.put, sA, sB, sC]
                  (first | (refine wpAnyH_take (i := 3) (v := _) (by simp only [gA, gB, gC]; rfl) (by kernel_rfl) (by kernel_rfl) (by kernel_rfl) (by exact fun _ _ _ h => h) (yields_at (by rfl) _ rfl ⟨bm, 2, none⟩ rfl [.int .i64 x.m.up.s, .int .i64 x.m.up.c, .int .i64 x.m.up.i, .int .i64 x.m.up.k] (fun _ q => blk_four (h4.then q).mb.1 rfl rfl rfl rfl) Tryd.underlying28 rfl hsl) (by assumption) ?_) | (refine wpAnyH_take (i := 3) (v := undef) (by simp only [gA, gB, gC]; rfl) (by kernel_rfl) (by kernel_rfl) (by kernel_rfl) (by exact fun _ _ _ h => h) (Or.inr ⟨by rfl, rfl⟩) (by assumption) ?_) | fail); simp only [Act.put, sA, sB, sC]
                  first | (refine wpAnyH_take (i := 4) (v := undef) (by simp only [gA, gB, gC]; rfl) (by kernel_rfl) (by kernel_rfl) (by kernel_rfl) (by exact fun _ _ _ h => h) (Or.inr ⟨by rfl, rfl⟩) (by assumption) ?_; simp only [Act.put, sA, sB, sC]) | (refine wpAnyH_ready (rs := [4]) (by kernel_rfl) (by simp) ?_; refine AllReadyH.cons (by simp only [gA, gB, gC]; rfl) (fun K hK => ?_) AllReadyH.nil; go_simp; (first | (go_at_call 18; refine (good_any x.m.up _).mono ?_; rintro e w1 ⟨rfl, hb1⟩; have hS1 := Below.then hS0 hb1) | (go_at_call 23; refine (rljoin_any d.n.label (goodL x.m.up) _).mono ?_; rintro e w2 ⟨rfl, hb2⟩; have hS2 := Below.then hS1 hb2; obtain ⟨wz, hwz, hthz, hNz, hSz⟩ := put_mid (stab_blk _ _ _ _ (stab_blk _ _ _ _ hNd hb1) hb2) 2 [.int .i64 (joinL d.n.label (goodL x.m.up)).s, .int .i64 (joinL d.n.label (goodL x.m.up)).c, .int .i64 (joinL d.n.label (goodL x.m.up)).i, .int .i64 (joinL d.n.label (goodL x.m.up)).k] (by simp [nclT]) (by simp [nclT]) hS2 hbn)); refine hK.out _ _ (by first | exact hSz | exact hS2 | exact hS1 | exact hS0) ?_; clear hHeld hK; intro hHeld; (try simp only [Act.put, sA, sB, sC])) | fail
                  first | (refine wpAnyH_take (i := 5) (v := undef) (by simp only [gA, gB, gC]; rfl) (by kernel_rfl) (by kernel_rfl) (by kernel_rfl) (by exact fun _ _ _ h => h) (Or.inr ⟨by rfl, rfl⟩) (by assumption) ?_; simp only [Act.put, sA, sB, sC]) | (refine wpAnyH_ready (rs := [5]) (by kernel_rfl) (by simp) ?_; refine AllReadyH.cons (by simp only [gA, gB, gC]; rfl) (fun K hK => ?_) AllReadyH.nil; go_simp; (first | (go_at_call 18; refine (good_any x.m.up _).mono ?_; rintro e w1 ⟨rfl, hb1⟩; have hS1 := Below.then hS0 hb1) | (go_at_call 23; refine (rljoin_any d.n.label (goodL x.m.up) _).mono ?_; rintro e w2 ⟨rfl, hb2⟩; have hS2 := Below.then hS1 hb2; obtain ⟨wz, hwz, hthz, hNz, hSz⟩ := put_mid (stab_blk _ _ _ _ (stab_blk _ _ _ _ hNd hb1) hb2) 2 [.int .i64 (joinL d.n.label (goodL x.m.up)).s, .int .i64 (joinL d.n.label (goodL x.m.up)).c, .int .i64 (joinL d.n.label (goodL x.m.up)).i, .int .i64 (joinL d.n.label (goodL x.m.up)).k] (by simp [nclT]) (by simp [nclT]) hS2 hbn)); refine hK.out _ _ (by first | exact hSz | exact hS2 | exact hS1 | exact hS0) ?_; clear hHeld hK; intro hHeld; (try simp only [Act.put, sA, sB, sC])) | fail
                  (first | (refine wpAnyH_take (i := 6) (v := ?_) (by simp only [gA, gB, gC]; rfl) (by kernel_rfl) (by kernel_rfl) (by kernel_rfl) (by exact fun _ _ _ h => h) (Or.inl ⟨by rfl, ?_⟩) (by assumption) ?_; rotate_left; (focus (intro w hSw; (try dsimp only at hSw); go_simp; try with_reducible rfl))) | (refine wpAnyH_take (i := 6) (v := undef) (by simp only [gA, gB, gC]; rfl) (by kernel_rfl) (by kernel_rfl) (by kernel_rfl) (by exact fun _ _ _ h => h) (Or.inr ⟨by rfl, rfl⟩) (by assumption) ?_) | fail); simp only [Act.put, sA, sB, sC]
                  refine wpAnyH_ready (rs := [7]) (by kernel_rfl) (by simp) ?_; refine AllReadyH.cons (by simp only [gA, gB, gC]; rfl) (fun K hK => ?_) AllReadyH.nil; refine step_store_part rfl _ _ rfl bn 2 rfl [.int .i64 (joinL d.n.label (goodL x.m.up)).s, .int .i64 (joinL d.n.label (goodL x.m.up)).c, .int .i64 (joinL d.n.label (goodL x.m.up)).i, .int .i64 (joinL d.n.label (goodL x.m.up)).k] rfl hthz hsl hone4 hwz ?_; (try simp only [Act.put, sA, sB, sC]); refine hK.out _ _ (by first | exact hSz | exact hS2 | exact hS1 | exact hS0) ?_; clear hHeld hK; intro hHeld; (try simp only [Act.put, sA, sB, sC])
                  refine wpAnyH_done (by kernel_rfl) ?_ _
                  have hOz : OwnGr wz W6.heap.size (.slice aa (aclOf x.m.acl).length ca) (aclOf x.m.acl) := by rw [← hwz]; exact ((hOd.below hb1).below hb2).mid hne 2 _
                  obtain ⟨y, hy⟩ : ∃ y : PN, y = ⟨mkN d.n x.m, aa, ca, none, 0⟩ := ⟨_, rfl⟩
                  have hyn : y.n = mkN d.n x.m := by rw [hy]
                  have hyk : BlkL bn y.cs wz := by
                    have e : setM (nclT (nod0 d.n x.m) aa ca none 0) 2 [.int .i64 (joinL d.n.label (goodL x.m.up)).s, .int .i64 (joinL d.n.label (goodL x.m.up)).c, .int .i64 (joinL d.n.label (goodL x.m.up)).i, .int .i64 (joinL d.n.label (goodL x.m.up)).k] = y.cs := by
                      rw [hy]
                      unfold PN.cs nclT nod0 mkN
                      rw [hdir]
                      rfl
                    rw [← e]
                    exact hNz
                  have hyA : y.At wz := by
                    rw [hy]
                    obtain ⟨a9, c9, he9, -, -, hr9⟩ := OwnR.slice gr_okT.len hOz
                    cases he9
                    have hm : (mkN d.n x.m).acl = aclOf x.m.acl ∧ (mkN d.n x.m).words = [] := by unfold mkN; rw [hdir]; exact ⟨rfl, rfl⟩
                    exact ⟨by show GrsAt wz aa (mkN d.n x.m).acl; rw [hm.1]; exact row_grs hr9, fun j q hq => by rw [show (PN.n ⟨mkN d.n x.m, aa, ca, none, 0⟩).words = [] from hm.2] at hq; simp at hq⟩
                  have hyB : PN.Abv w.heap.size y := by
                    rw [hy]
                    exact ⟨fun q hq => Nat.le_trans h4.g.b.size (own_abv hOz q hq), fun q hq => by cases hq⟩
                  clear hNz hOz hOd hNd hy hthz
                  have hT9 := h4.then hSz
                  have hrn9 : RowN wz va l := ⟨by obtain ⟨va', vc', hvv, -, -, hr'⟩ := OwnR.slice pn_ok.len hT9.g.o; cases hvv; exact hr', hT9.g.p⟩
                  have hyr := hyk.range
                  have hung := Tryd.underlying34
                  have hszY : (Tryd.prog.info? 34).map (·.size) = some y.cs.length := by rw [pn_len]; kernel_rfl
                  have hpl := put_len l y
                  have hgi := fun v9 W9 (q : OwnN W9 wz.heap.size v9 (putP l y)) (b : Below wz.heap.size wz W9) => grown_GI hT9.g hyA hyB q b
                  have hfin : Aside (((ms.map (·.m)).take (i + 1)).foldl growStep (firstN L) = namesP (putP l y)) := by show _ = _; rw [put_names, hyn, hT.out]; exact hst'.out
                  clear h4 hT9
                  go_wp2_with (first | (refine wpList_load_row rfl _ rfl bn rfl y.cs hyr hung rfl hszY ?_) | fail)
                  refine (rputT_any va vc l y (by omega) wz hrn9).mono ?_
                  rintro e W9 ⟨v9, rfl, ho9, hB9⟩
                  have g9 := hgi v9 W9 ho9 hB9
                  clear hgi hrn9 hyr ho9
                  go_wp2_with fail
                  exact ⟨⟨i + 1, putP l y, by omega, by omega, by simp, g9, by omega, hfin⟩, by simp [Go.RowKit.intOf]; omega⟩
            · have hst2 : T = namesP l := by
                rw [hst']
                simp only [Option.map]
                rw [if_neg]
                rintro ⟨h1, h2⟩
                exact hgo ⟨h1, by cases fe <;> simp_all⟩
              clear hst'
              cases hdd : d.n.dir
              · rw [hdd] at hd1
                go_wp2_with (first | (refine wpList_store_row rfl _ _ rfl W5.heap.size rfl (foundCs fe) rfl hth6 hszn honen hW6 ?_) | fail)
                exact ⟨⟨i + 1, l, by omega, by omega, by simp, g6, by omega, by rw [hT.out]; exact hst2⟩, by simp [Go.RowKit.intOf]; omega⟩
              · rw [hdd] at hd1
                obtain ⟨z, rfl⟩ : ∃ z, fe = some z := by cases fe with
                  | none => exact absurd ⟨hdd, rfl⟩ hgo
                  | some z => exact ⟨z, rfl⟩
                go_wp2_with (first | (refine wpList_store_row rfl _ _ rfl W5.heap.size rfl (foundCs (some z)) rfl hth6 hszn honen hW6 ?_) | fail)
                exact ⟨⟨i + 1, l, by omega, by omega, by simp, g6, by omega, by rw [hT.out]; exact hst2⟩, by simp [Go.RowKit.intOf]; omega⟩
        · rw [if_pos he] at hst'
          have f0 : (p.toList == [47]) = true := by rw [← slash_lit]; exact he
          go_wp2_with fail
          exact ⟨⟨i + 1, l, by omega, by omega, by simp, g2, by omega, by rw [hT.out]; exact hst'⟩, by simp [Go.RowKit.intOf]; omega⟩
      · have hend : (ms.map (·.m)).take i = (ms.map (·.m)).take 14 := by
          have hmm : (ms.map (·.m)).length = m := by rw [List.length_map]; exact hm.out
          by_cases h4 : i = 14
          · rw [h4]
          · rw [List.take_of_length_le (by omega), List.take_of_length_le (by omega)]
        have hRl : namesP l = R := by rw [← hf.out, hend]; exact hR'.out
        clear hend hrn hrl
        by_cases hin : i < m
        · obtain rfl : i = 14 := by omega
          have i1 : ((14 : Nat) : Int) < (m : Int) := by omega
          go_wp2_with fail
          exact bodyPost_ret (v := .slice va l.length vc) (by simp [results, Tryd.results6, go_sem]) rfl ⟨_, l, rfl, g.o, g.p, hRl, g.b, g.a⟩
        · obtain rfl : i = m := by omega
          go_wp2_with fail
          exact bodyPost_ret (v := .slice va l.length vc) (by simp [results, Tryd.results6, go_sem]) rfl ⟨_, l, rfl, g.o, g.p, hRl, g.b, g.a⟩
theorem growT_any (ta : Option Addr) (ct : Nat) (ts : List Lab) (ma : Option Addr) (mc : Nat) (ms : List PM) (w : World) (hlr : RowAt 4 lrow w ta ts) (hmr : RowM w ma ms) :
    Calls Tryd.prog 6 #[.slice ta ts.length ct, .slice ma ms.length mc] w fun e w' => ∃ v l, e = .returned v ∧ OwnN w' w.heap.size v l ∧ (∀ x ∈ l, x.At w') ∧ namesP l = growN ts (ms.map (·.m)) ∧ Below w.heap.size w w' := (growB_any ta ct ts ma mc ms w hlr hmr).mono fun e w' ⟨v, l, h1, h2, h3, h4, h5, _⟩ => ⟨v, l, h1, h2, h3, h4, h5⟩
end Go.Proofs.YtapgjdmnlkedgabDoor

/-! WHAT THE LAWS OF CHAPTER 13 HOLD OF A TREE THAT WAS GROWN. -/
namespace Go.Proofs.YtapgjdmnlkedgabDoor
open Go.RowKit
set_option maxRecDepth 8000
set_option linter.unusedSimpArgs false
set_option linter.unusedVariables false

theorem grow_fewM (ts : List Lab) (ms : List Mk) : (growN ts ms).length ≤ 19 := by
  have putN_len : ∀ (l : List Nod) (x : Nod), (putN l x).length ≤ l.length + 1 := fun l x => by
    unfold putN
    have h1 : (dropN l x.path).length ≤ l.length := List.length_filter_le _ _
    have h2 := congrArg List.length (List.takeWhile_append_dropWhile (p := fun y : Nod => lt y.path x.path) (l := dropN l x.path))
    rw [List.length_append] at h2 ⊢
    rw [List.length_cons]
    omega
  have step_len : ∀ (l : List Nod) (m : Mk), (growStep l m).length ≤ l.length + 1 := fun l m => by
    unfold growStep
    split
    · omega
    · split
      · omega
      · split
        · exact putN_len l _
        · omega
  have fold_len : ∀ (ms : List Mk) (l : List Nod), (ms.foldl growStep l).length ≤ l.length + ms.length := fun ms => by
    induction ms with
    | nil => intro l; simp
    | cons m r ih =>
      intro l
      have h1 := ih (growStep l m)
      have h2 := step_len l m
      simp only [List.foldl_cons, List.length_cons]
      omega
  unfold growN
  have h1 := fold_len (ms.take 14) (firstN ((ts.take 4).map goodL))
  have h2 : (ms.take 14).length ≤ 14 := by rw [List.length_take]; omega
  have h3 := dist_len ((ts.take 4).map goodL) ((ts.take 4).map goodL).length
  have h4 : ((ts.take 4).map goodL).length ≤ 4 := by rw [List.length_map, List.length_take]; omega
  have h5 : (firstN ((ts.take 4).map goodL)).length = (distTo ((ts.take 4).map goodL) ((ts.take 4).map goodL).length).length + 1 := by simp [firstN, firstTo]
  omega
/-- A tree that was grown, where it lies: all of it in blocks from B on. -/
structure GT (B : Nat) (W : World) (a : Option Addr) (c : Nat) (l : List PN) (ts : List Lab) (ms : List Mk) : Prop where
  row : RowN W a l
  names : namesP l = growN ts ms
  abv : ∀ x ∈ l, PN.Abv B x
  own : ∀ y, a = some y → B ≤ y.block
section
variable {B : Nat} {W W' : World} {a : Option Addr} {c : Nat} {l : List PN} {ts : List Lab} {ms : List Mk}
theorem GT.below (h : GT B W a c l ts ms) (b : Below W.heap.size W W') : GT B W' a c l ts ms := ⟨h.row.below b, h.names, h.abv, h.own⟩
theorem GT.tree (h : GT B W a c l ts ms) : Tree (namesP l) := by rw [h.names]; exact grow_tree ts ms
theorem GT.len (h : GT B W a c l ts ms) : l.length ≤ 19 := by
  have := grow_fewM ts ms
  rw [← h.names] at this
  simpa [namesP] using this
theorem GT.fine (h : GT B W a c l ts ms) : FineL l := ⟨by have := h.len; omega, h.tree.ord, fun x hx => h.tree.ok x.n (List.mem_map.2 ⟨x, hx, rfl⟩)⟩
theorem GT.pos (h : GT B W a c l ts ms) : 0 < l.length := by
  obtain ⟨r, hr, _⟩ := h.tree.root
  cases l with
  | nil => simp [namesP] at hr
  | cons x r => simp
theorem GT.mem (h : GT B W a c l ts ms) {x : PN} (hx : x ∈ l) : x.n ∈ namesP l := List.mem_map.2 ⟨x, hx, rfl⟩
theorem GT.lab (h : GT B W a c l ts ms) {x : PN} (hx : x ∈ l) : GL x.n.label := (nodC_zero.1 (h.fine.ok x hx)).2.1
theorem GT.path (h : GT B W a c l ts ms) {x : PN} (hx : x ∈ l) : x.n.path.size ≤ 78 := by
  obtain ⟨_, _, _, h78⟩ := check_path (nodC_zero.1 (h.fine.ok x hx)).1
  exact h78
/-- What lies ahead of B may be turned. -/
theorem GT.turn (h : GT B W a c l ts ms) (hb : ∀ k, B ≤ k → W'.heap[k]? = W.heap[k]?) : GT B W' a c l ts ms := by
  have hcell : ∀ (q : Addr), B ≤ q.block → W'.cell? q = W.cell? q := fun q hq => World.cell?_of_block (hb _ hq)
  have hadd : ∀ (y : Addr) (k : Nat), (y.add k).block = y.block := fun y k => by unfold Addr.add; split <;> rfl
  refine ⟨⟨fun j x hx => ?_, fun x hx => ⟨fun j g hg => ?_, fun j g hg => ?_⟩⟩, h.names, h.abv, h.own⟩
  · obtain ⟨y, hy, hc⟩ := h.row.r j x hx
    exact ⟨y, hy, fun i hi => by rw [hcell _ (by rw [hadd]; exact h.own y hy)]; exact hc i hi⟩
  · obtain ⟨y, hy, h1, h2⟩ := (h.row.p x hx).g j g hg
    have hB := (h.abv x hx).1 y hy
    exact ⟨y, hy, by rw [hcell _ (by rw [hadd]; exact hB)]; exact h1, by rw [hcell _ (by show B ≤ (y.add (j * 2)).block; rw [hadd]; exact hB)]; exact h2⟩
  · obtain ⟨y, hy, h1⟩ := (h.row.p x hx).w j g hg
    exact ⟨y, hy, by rw [hcell _ (by rw [hadd]; exact (h.abv x hx).2 y hy)]; exact h1⟩
end
theorem gt_of {w W : World} {v : Value} {l : List PN} {ts : List Lab} {ms : List Mk} (ho : OwnN W w.heap.size v l) (hp : ∀ x ∈ l, x.At W) (hn : namesP l = growN ts ms) (hA : ∀ x ∈ l, PN.Abv w.heap.size x) : ∃ a c, v = .slice a l.length c ∧ GT w.heap.size W a c l ts ms := by
  obtain ⟨a, c, rfl, -, -, hr⟩ := OwnR.slice pn_len ho
  exact ⟨a, c, rfl, ⟨hr, hp⟩, hn, hA, own_abv ho⟩
end Go.Proofs.YtapgjdmnlkedgabDoor

/-! P1302: more modes asked for at once are allowed just if each one is: the law's walk. -/
namespace Go.Proofs.YtapgjdmnlkedgabDoor
open Go.RowKit
set_option maxRecDepth 8000
set_option linter.unusedSimpArgs false
set_option linter.unusedVariables false

/-- Is each of the first bits of m allowed by itself? -/
def eachB (L : List Nod) (u : ByteArray) (t : Lab) (p : ByteArray) (m : Int) : Nat → Bool
  | 0 => true
  | i + 1 => eachB L u t p m i && !((bits .and .i64 m ((2 ^ i : Nat) : Int) != 0) && (mayE L u t p ((2 ^ i : Nat) : Int) != 0))
theorem each_all {L : List Nod} {u : ByteArray} {t : Lab} {p : ByteArray} {x : Nod} (hx : findN L p = some x) (hA : chkA x.acl = 0) {m : Int} (h1 : 1 ≤ m) (h7 : m ≤ 7) : (mayE L u t p m == 0) = eachB L u t p m 3 := by
  have h := may_more (L := L) (p := p) hx hA u t h1 h7
  have e : eachB L u t p m 3 = (((true && !((bits .and .i64 m 1 != 0) && (mayE L u t p 1 != 0))) && !((bits .and .i64 m 2 != 0) && (mayE L u t p 2 != 0))) && !((bits .and .i64 m 4 != 0) && (mayE L u t p 4 != 0))) := rfl
  rw [e]
  rw [Bool.eq_iff_iff]
  simp only [beq_iff_eq, h, Bool.and_eq_true, Bool.true_and, Bool.not_eq_true', Bool.and_eq_false_imp, bne_eq_false_iff_eq, and_assoc]
theorem cells_lab {W : World} {x : Addr} {p : PN} (h : CellsAt W x p.cs) : CellsAt W ⟨x.block, x.off + 2, none⟩ (labM p.n.label) := fun j v hv => by
  have h1 := h (2 + j) v (by
    match j, hv with
    | 0, hv => exact hv
    | 1, hv => exact hv
    | 2, hv => exact hv
    | 3, hv => exact hv)
  have e : (⟨x.block, x.off + 2, none⟩ : Addr).add j = x.add (2 + j) := by
    unfold Addr.add
    by_cases hj : j = 0
    · subst hj
      simp
    · rw [if_neg hj, if_neg (by omega)]
      simp [Nat.add_assoc]
  rw [e]
  exact h1
end Go.Proofs.YtapgjdmnlkedgabDoor

/-! THE LIBRARY's VARIABLE THAT THE SEARCHES READ, AS THE WORLD's SHAPE GIVES IT; a row's frame that keeps the shape and the sizes (door seats behind the seventh stage). Written by mk_ndoor.py. -/
namespace Go.Proofs.YtapgjdmnlkedgabDoor
open Go.ChangeShapes Go.WideShapes Go.ChangeAt Go.RowKit
set_option maxRecDepth 8000
set_option linter.unusedVariables false
set_option linter.unusedSimpArgs false

theorem int_und : Tryd.prog.underlying 3 = some (.int .i64) := by kernel_rfl
theorem glob_size : Tryd.prog.globals.size = 3 := by kernel_rfl
theorem maxV_shaped {W : World} (hsh : W.ShapedOpen Tryd.prog) : MaxV W :=
  cell_of_shapedOpen_int hsh (t := 3) (zero := #[.int .i64 0]) (by rw [glob_size]; decide) (by kernel_rfl) (by kernel_rfl) (by kernel_rfl) (by kernel_rfl) int_und

variable {H : Type} {enc : TypeId × Value → H}
/-- The row's frame with listed variables, the world's shape and the sizes kept. -/
theorem returns_all {a : Assume} {C : Checked} {os : Os} {f : FuncId} {fn : Func} {s : ChangeSpec} {conds : List PathCond} {apart fresh handsOn again : Bool} {X : World → Array Value → Prop}
    (hX : ∀ (w w' : World) (args : Array Value), w.heap = w'.heap → X w args → X w' args)
    (own : ownKnob C.prog.godebug = none) (started : os.Started) (noInit : C.prog.inits.idxOf? f = none) (hfn : C.prog.funcs[f]? = some fn)
    (witness : ∃ (w : World) (tape : Tape) (i : Input), w.os = os ∧ (w.forCall tape i).Shaped C.prog ∧ i.vars = [] ∧ Input.okWide C.prog (w.forCall tape i) .any w.heap.size f i ∧
      ((s.pre enc C.prog fn conds apart (w.forCall tape i).memory i.args ∧ X (w.forCall tape i).memory i.args) ∧ sizedMet enc C.prog fn (OpenSpec.ofChange s) apart (w.forCall tape i).memory i.args) ∧ a.holds C.prog (lone (Frame.enter C.prog f i.args .normal) [] (w.forCall tape i)))
    (contract : ∀ (W : World) (base : Nat) (args : Array Value) (ds gs : List (DataW H)) (before : List MemPlace),
      (∀ (j : Nat) t v, fn.params[j]? = some t → args[j]? = some v → Value.okWide C.prog W .any base t v) →
      DataW.Whole enc C.prog fn.params.toList s.vars apart W args.toList ds gs before → X W args → W.ShapedOpen C.prog →
      (DataW.weightsEach C.prog (fn.params.toList ++ s.plain.varTypes C.prog) (ds ++ gs)).all (· ≤ reachBytes) = true →
      Calls C.prog f args W fun e W' => ∃ v, e = .returned v ∧ s.post enc C.prog fn apart fresh handsOn again W args v W') :
    ReturnsInHanded a C os f .any (fun w args => (s.pre enc C.prog fn conds apart w args ∧ X w args) ∧ sizedMet enc C.prog fn (OpenSpec.ofChange s) apart w args) (s.post enc C.prog fn apart fresh handsOn again) := by
  refine returnsInHanded_of_calls own started noInit witness ?_
  intro w tape i _ hsh _ hok hpre hholds
  obtain ⟨_, _, _, fn', hfn', _, _, _, _, hval⟩ := hok
  have e : fn' = fn := Option.some.inj (hfn'.symm.trans hfn)
  subst e
  obtain ⟨⟨⟨ds, gs, before, hw, hc⟩, hx⟩, hz⟩ := hpre
  have hw' := DataW.Whole.of_heap (w' := w.forCall tape i) (by rfl) hw
  refine (contract (w.forCall tape i) w.heap.size i.args ds gs before hval hw' (hX _ _ _ (by rfl) hx) hsh (hz.weights hw)).mono fun e W' ⟨v, he, hp⟩ => ?_
  subst he
  exact ChangeSpec.post_blind hp
end Go.Proofs.YtapgjdmnlkedgabDoor
