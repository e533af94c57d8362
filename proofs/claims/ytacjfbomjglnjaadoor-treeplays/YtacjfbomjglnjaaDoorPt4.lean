/-
  PART 4 of what the claims of this seat lean on: TreePut TreeGrow Chr TreeFirstRef LabOpen NodeOpenD TreeAcl TreeGrown TreeOpen NodeSameL TreeUnder TreePlace Copied Mids TreeOwn.
-/
import Derived.Laws.AppendOwnNone
import Derived.Deep.RegionHeld
import Derived.Deep.CutBlock
import Derived.Laws.MakeOwn
import Derived.Laws.IdiomCopy
import Derived.Test.YtacjfbomjglnjaaDoorPt1
import Derived.Test.YtacjfbomjglnjaaDoorPt3
/-! NODES PUT, AND TOLD BY DIRECTORIES: the document's own Put and Under (donjonref11). -/
namespace Go.Proofs.YtacjfbomjglnjaaDoor
open Go.RowKit
set_option maxRecDepth 8000
set_option linter.unusedSimpArgs false
set_option linter.unusedVariables false

section
variable {α : Type} {e t : TypeId} {sz : Nat} {f : α → List Value}
/-- append of elements that lie anywhere, or of none. -/
theorem OwnR.append_any {w : World} {base : Nat} {v : Value} {l : List α} (hE : ElemOk e t sz f) (h : OwnR e sz f w base v l) (hb : base ≤ w.heap.size) (a : Option Addr) (m c : Nat) (l2 : List α) (hm : l2.length = m) (h2 : RowAt sz f w a l2) (hn : a = none → c = 0 ∧ m = 0) (hl : l.length < 900000) (hl2 : m < 900000) :
    ∃ v' w', (Builtin.append_ #[t, t] t #[v, .slice a m c]).run Tryd.prog w = .ok v' w' ∧ OwnR e sz f w' base v' (l ++ l2) ∧ Grew w v w' v' := by
  cases a with
  | some y => exact h.append hE hb y m c l2 hm h2 hl hl2
  | none =>
    obtain ⟨rfl, hm0⟩ := hn rfl
    subst hm0
    obtain rfl : l2 = [] := List.eq_nil_of_length_eq_zero hm
    obtain ⟨i, z, b, hi, _⟩ := hE.info
    have ho : w.ownsRow base e sz v l.length (l.flatMap f) := h
    refine ⟨v, w, run_append_owned_none (P := Tryd.prog) (w := w) base t t e i sz hE.und hi v l.length _ ho, by rw [List.append_nil]; exact h, Grew.refl _ _⟩
/-- The first k of a row, and the others. -/
theorem rows_take (hE : ElemOk e t sz f) (ht : Tryd.prog.elem t = e) (a : Option Addr) (n cap k : Nat) (hk : k ≤ n) (hnc : n ≤ cap) :
    ∃ A : Option Addr, (∀ W, (Instr.slice t (.slice a n cap) none (some (.int .i64 (k : Int))) none).run Tryd.prog W = .ok (.slice A k cap) W) ∧ (A = none → a = none) ∧ ∀ W l, RowAt sz f W a l → RowAt sz f W A (l.take k) := by
  obtain ⟨i, z, b, hi, hz, hs, _⟩ := hE.info
  refine ⟨if cap = 0 then a else a.map (·.add 0), fun W => ?_, fun h => ?_, fun W l h j x hx => ?_⟩
  · rw [run_slice_h (P := Tryd.prog) W t a n cap (by rw [ht]; exact hE.und) .i64 (k : Int) (by omega) (by omega), ht]
    simp [sizeOf, typeInfo, hi, hs, sliced]
  · split at h
    · exact h
    · simpa using h
  · have hj : l[j]? = some x := by
      rw [List.getElem?_take] at hx
      split at hx
      · exact hx
      · cases hx
    obtain ⟨y, rfl, hc⟩ := h j x hj
    refine ⟨y, ?_, hc⟩
    split
    · rfl
    · rfl
theorem rows_drop (hE : ElemOk e t sz f) (ht : Tryd.prog.elem t = e) (a : Option Addr) (n cap k : Nat) (hk : k ≤ n) (hnc : n ≤ cap) :
    ∃ A : Option Addr, (∀ W, (Instr.slice t (.slice a n cap) (some (.int .i64 (k : Int))) none none).run Tryd.prog W = .ok (.slice A (n - k) (cap - k)) W) ∧ (A = none → a = none) ∧ ∀ W l, l.length = n → RowAt sz f W a l → RowAt sz f W A (l.drop k) := by
  obtain ⟨i, z, b, hi, hz, hs, _⟩ := hE.info
  refine ⟨if cap = k then a else a.map (·.add (k * sz)), fun W => ?_, fun h => ?_, fun W l hl h j x hx => ?_⟩
  · rw [run_slice_l (P := Tryd.prog) W t a n cap (by rw [ht]; exact hE.und) .i64 (k : Int) (by omega) (by omega), ht]
    simp [sizeOf, typeInfo, hi, hs, sliced]
  · split at h
    · exact h
    · simpa using h
  · rw [List.getElem?_drop] at hx
    have hkj := (List.getElem?_eq_some_iff.1 hx).1
    obtain ⟨y, rfl, hc⟩ := h (k + j) x hx
    rw [if_neg (by omega)]
    refine ⟨_, rfl, fun q hq => ?_⟩
    rw [Addr.add_add, ← Nat.add_assoc, ← Nat.add_mul]
    exact hc q hq
end
theorem tw_take {α : Type} {f : α → Bool} : ∀ (l : List α) (k : Nat), (∀ x ∈ l.take k, f x = true) → (∀ x, l[k]? = some x → f x = false) → l.takeWhile f = l.take k ∧ l.dropWhile f = l.drop k
  | [], k, _, _ => by simp
  | a :: r, 0, _, h => by
    have := h a rfl
    simp [List.takeWhile_cons, List.dropWhile_cons, this]
  | a :: r, k + 1, h1, h2 => by
    have ha := h1 a (by simp)
    obtain ⟨h3, h4⟩ := tw_take r k (fun x hx => h1 x (by simp [hx])) (fun x hx => h2 x (by simpa using hx))
    rw [List.takeWhile_cons, List.dropWhile_cons, ha]
    simp only [if_true, List.take_succ_cons, List.drop_succ_cons]
    rw [h3, h4]
    exact ⟨rfl, rfl⟩
/-- What Put does behind its loop. -/
theorem put_tail (W : World) (a1 : Option Addr) (n c1 k : Nat) (m : List PN) (x : PN) (hn : m.length = n) (hk : k ≤ n) (hle : n ≤ c1) (hno : a1 = none → c1 = 0) (hn1 : n ≤ 100000) (hr : RowAt 16 PN.cs W a1 m) :
    ∃ A1 A2 v2 W2 v3 W3 v4 W4, (∀ X, (Instr.slice 22 (.slice a1 n c1) none (some (.int .i64 (k : Int))) none).run Tryd.prog X = .ok (.slice A1 k c1) X) ∧ (∀ X, (Instr.slice 22 (.slice a1 n c1) (some (.int .i64 (k : Int))) none none).run Tryd.prog X = .ok (.slice A2 (n - k) (c1 - k)) X) ∧
      (Builtin.append_ #[22, 22] 22 #[.slice none 0 0, .slice A1 k c1]).run Tryd.prog W = .ok v2 W2 ∧ (Builtin.append_ #[22, 22] 22 #[v2, .slice (some ⟨W2.heap.size, 0, none⟩) 1 1]).run Tryd.prog (W2.alloc (.cells x.cs.toArray 32)) = .ok v3 W3 ∧
      (Builtin.append_ #[22, 22] 22 #[v3, .slice A2 (n - k) (c1 - k)]).run Tryd.prog W3 = .ok v4 W4 ∧ Below W.heap.size W W2 ∧ OwnN W4 W.heap.size v4 (m.take k ++ x :: m.drop k) ∧ Below W.heap.size W W4 := by
  obtain ⟨A1, hs1, hn1', hr1'⟩ := rows_take pn_ok (by kernel_rfl) a1 n c1 k hk hle
  obtain ⟨A2, hs2, hn2', hr2'⟩ := rows_drop pn_ok (by kernel_rfl) a1 n c1 k hk hle
  have hlt3 : (m.take k).length = k := by rw [List.length_take, hn]; omega
  have hlt4 : (m.drop k).length = n - k := by rw [List.length_drop, hn]
  have ho0 : OwnN W W.heap.size (.slice none 0 0) [] := OwnR.nil _ _ _ _ _
  obtain ⟨v2, W2, hap2, ho2, hg2⟩ := OwnR.append_any pn_ok ho0 (Nat.le_refl _) A1 k c1 (m.take k) hlt3 (hr1' _ _ hr) (fun q => by have := hno (hn1' q); omega) (by simp) (by omega)
  rw [List.nil_append] at ho2
  have hb2 := ho0.grew_below (Nat.le_refl _) hg2
  obtain ⟨v3, W3, hap3, ho3, hg3⟩ := OwnR.push pn_ok ho2 hb2.size x x.cs.toArray rfl 32 (by rw [hlt3]; omega)
  have hb3 := ho2.grew_below hb2.size hg3
  have hB3 := hb2.trans hb3
  obtain ⟨v4, W4, hap4, ho4, hg4⟩ := OwnR.append_any pn_ok ho3 hB3.size A2 (n - k) (c1 - k) (m.drop k) hlt4 (hr2' _ _ hn (hr.below pn_len hB3)) (fun q => by have := hno (hn2' q); omega) (by simp [hlt3]; omega) (by omega)
  have hb4 := ho3.grew_below hB3.size hg4
  refine ⟨A1, A2, v2, W2, v3, W3, v4, W4, hs1, hs2, hap2, hap3, hap4, hb2, ?_, hB3.trans hb4⟩
  simpa using ho4
set_option maxRecDepth 8000 in
set_option maxHeartbeats 4000000 in
theorem rputT_any (a : Option Addr) (cap : Nat) (l : List PN) (x : PN) (hl : l.length ≤ 100000) (w : World) (h : RowN w a l) :
    Calls Tryd.prog 19 #[.slice a l.length cap, .agg x.cs.toArray] w fun e w' => ∃ v, e = .returned v ∧ OwnN w' w.heap.size v (putP l x) ∧ Below w.heap.size w w' := by
  have hund := Tryd.underlying32
  have hsz : (Tryd.prog.info? 32).map (·.size) = some 16 := by kernel_rfl
  have hb0 := blk_alloc w x.cs.toArray 32
  have hB0 := alloc_below w (.cells x.cs.toArray 32)
  have hs0 := World.size_alloc w (.cells x.cs.toArray 32)
  have kd := fun W (q : RowN W a l) => rdropT_any a cap l x.n.path hl W q
  unfold putP
  have hdl : (dropP l x.n.path).length ≤ 100000 := Nat.le_trans (List.length_filter_le _ _) hl
  generalize dropP l x.n.path = m at *
  have hcs : x.cs = [.string x.n.path, .bool x.n.dir, .int .i64 x.n.label.s, .int .i64 x.n.label.c, .int .i64 x.n.label.i, .int .i64 x.n.label.k, .slice x.aa x.n.acl.length x.ca, .int .i64 x.n.r1, .int .i64 x.n.r2, .int .i64 x.n.r3, .int .i64 x.n.gates, .slice x.wa x.n.words.length x.cw, .int .i64 x.n.by_.s, .int .i64 x.n.by_.c, .int .i64 x.n.by_.i, .int .i64 x.n.by_.k] := rfl
  rw [hcs] at hb0 hB0 hs0 ⊢
  go_enter Tryd.func19, Tryd.ntmps19
  go_wp2_with fail
  have hrow := h.below hB0
  generalize w.alloc (.cells #[.string x.n.path, .bool x.n.dir, .int .i64 x.n.label.s, .int .i64 x.n.label.c, .int .i64 x.n.label.i, .int .i64 x.n.label.k, .slice x.aa x.n.acl.length x.ca, .int .i64 x.n.r1, .int .i64 x.n.r2, .int .i64 x.n.r3, .int .i64 x.n.gates, .slice x.wa x.n.words.length x.cw, .int .i64 x.n.by_.s, .int .i64 x.n.by_.c, .int .i64 x.n.by_.i, .int .i64 x.n.by_.k] 32) = W at *
  refine (kd W hrow).mono ?_
  rintro e W1 ⟨v1, rfl, ho1, hB1⟩
  obtain ⟨a1, c1, rfl, hle1, hno1, hr1⟩ := OwnR.slice pn_len ho1
  have hb1 := hb0.same (hB1.block _ (by omega))
  rw [← hcs] at hb1
  have hlt1 : w.heap.size < W1.heap.size := by have := hB1.size; omega
  have hB2 := Below.then hB0 hB1
  clear hb0 kd hrow h hB0 hB1
  obtain ⟨n, hn⟩ : ∃ n, m.length = n := ⟨_, rfl⟩
  rw [hn] at hle1 ⊢
  replace hn : Aside (m.length = n) := hn
  have hn1 : n ≤ 100000 := by rw [← hn.out]; exact hdl
  go_wp2_with fail
  go_loopw [5] (fun t5 wr => ∃ k : Nat, k ≤ n ∧ t5 = .int .i64 (k : Int) ∧ (∀ y ∈ m.take k, lt y.n.path x.n.path = true) ∧ Below W1.heap.size W1 wr) (fun t5 _ => n - (Go.RowKit.intOf t5).toNat)
  case atStart => exact ⟨0, by omega, rfl, fun y hy => by simp at hy, Below.refl _ _⟩
  case round =>
    obtain ⟨k, hk, rfl, hall, hB⟩ := hrel
    have hbk := hb1.same (hB.block _ hlt1)
    have q0 : wr.cell? ⟨w.heap.size, 0, none⟩ = some (.string x.n.path) := (hbk 0 _ rfl).1
    have hrk := hr1.below pn_len hB
    by_cases hlt : k < n
    · obtain ⟨z, hz⟩ : ∃ z, m[k]? = some z := ⟨_, List.getElem?_eq_getElem (by rw [hn.out]; exact hlt)⟩
      obtain ⟨y, rfl, -⟩ := hrk k z hz
      have hc := (hrk.at pn_len hz) 0 _ rfl
      have hc' : wr.cell? (y.add (k * 16)) = some (.string z.n.path) := hc
      have hi1 : (k : Int) < (n : Int) := by omega
      have hS0 : (fun W : World => W.cell? (y.add (k * 16)) = some (.string z.n.path) ∧ W.cell? ⟨w.heap.size, 0, none⟩ = some (.string x.n.path)) wr.drew := ⟨hc', q0⟩
      have hBd := hB.drew
      cases hlt2 : lt z.n.path x.n.path
      · have f0 : Op.bytesLess z.n.path.toList x.n.path.toList = false := by exact hlt2
        have hbkd : Blk wr.drew w.heap.size x.cs := hbk
        have hrkd : RowAt 16 PN.cs wr.drew (some y) m := hrk
        go_wp2_with fail
        refine wp_region_held_drew (S := (fun W : World => W.cell? (y.add (k * 16)) = some (.string z.n.path) ∧ W.cell? ⟨w.heap.size, 0, none⟩ = some (.string x.n.path))) (by kernel_rfl) (by exact hS0) ?_
        intro hHeld
        (first | (refine wpAnyH_take (i := 0) (v := ?_) (by simp only [gA, gB, gC]; rfl) (by kernel_rfl) (by kernel_rfl) (by kernel_rfl) (by exact fun _ _ _ h => h) (Or.inl ⟨by rfl, ?_⟩) (by assumption) ?_; rotate_left; (focus (intro w hSw; (try dsimp only at hSw); go_simp; try with_reducible rfl))) | (refine wpAnyH_take (i := 0) (v := undef) (by simp only [gA, gB, gC]; rfl) (by kernel_rfl) (by kernel_rfl) (by kernel_rfl) (by exact fun _ _ _ h => h) (Or.inr ⟨by rfl, rfl⟩) (by assumption) ?_) | fail); simp only [Act.put, sA, sB, sC, f0]
        (first | (refine wpAnyH_take (i := 1) (v := ?_) (by simp only [gA, gB, gC]; rfl) (by kernel_rfl) (by kernel_rfl) (by kernel_rfl) (by exact fun _ _ _ h => h) (Or.inl ⟨by rfl, ?_⟩) (by assumption) ?_; rotate_left; (focus (intro w hSw; (try dsimp only at hSw); go_simp; try with_reducible rfl))) | (refine wpAnyH_take (i := 1) (v := undef) (by simp only [gA, gB, gC]; rfl) (by kernel_rfl) (by kernel_rfl) (by kernel_rfl) (by exact fun _ _ _ h => h) (Or.inr ⟨by rfl, rfl⟩) (by assumption) ?_) | fail); simp only [Act.put, sA, sB, sC, f0]
        (first | (refine wpAnyH_take (i := 2) (v := ?_) (by simp only [gA, gB, gC]; rfl) (by kernel_rfl) (by kernel_rfl) (by kernel_rfl) (by exact fun _ _ _ h => h) (Or.inl ⟨by rfl, ?_⟩) (by assumption) ?_; rotate_left; (focus (intro w hSw; (try dsimp only at hSw); go_simp; try with_reducible rfl))) | (refine wpAnyH_take (i := 2) (v := undef) (by simp only [gA, gB, gC]; rfl) (by kernel_rfl) (by kernel_rfl) (by kernel_rfl) (by exact fun _ _ _ h => h) (Or.inr ⟨by rfl, rfl⟩) (by assumption) ?_) | fail); simp only [Act.put, sA, sB, sC, f0]
        (first | (refine wpAnyH_take (i := 3) (v := ?_) (by simp only [gA, gB, gC]; rfl) (by kernel_rfl) (by kernel_rfl) (by kernel_rfl) (by exact fun _ _ _ h => h) (Or.inl ⟨by rfl, ?_⟩) (by assumption) ?_; rotate_left; (focus (intro w hSw; (try dsimp only at hSw); go_simp; try with_reducible rfl))) | (refine wpAnyH_take (i := 3) (v := undef) (by simp only [gA, gB, gC]; rfl) (by kernel_rfl) (by kernel_rfl) (by kernel_rfl) (by exact fun _ _ _ h => h) (Or.inr ⟨by rfl, rfl⟩) (by assumption) ?_) | fail); simp only [Act.put, sA, sB, sC, f0]
        (first | (refine wpAnyH_take (i := 4) (v := ?_) (by simp only [gA, gB, gC]; rfl) (by kernel_rfl) (by kernel_rfl) (by kernel_rfl) (by exact fun _ _ _ h => h) (Or.inl ⟨by rfl, ?_⟩) (by assumption) ?_; rotate_left; (focus (intro w hSw; (try dsimp only at hSw); go_simp; try with_reducible rfl))) | (refine wpAnyH_take (i := 4) (v := undef) (by simp only [gA, gB, gC]; rfl) (by kernel_rfl) (by kernel_rfl) (by kernel_rfl) (by exact fun _ _ _ h => h) (Or.inr ⟨by rfl, rfl⟩) (by assumption) ?_) | fail); simp only [Act.put, sA, sB, sC, f0]
        (first | (refine wpAnyH_take (i := 5) (v := ?_) (by simp only [gA, gB, gC]; rfl) (by kernel_rfl) (by kernel_rfl) (by kernel_rfl) (by exact fun _ _ _ h => h) (Or.inl ⟨by rfl, ?_⟩) (by assumption) ?_; rotate_left; (focus (intro w hSw; (try dsimp only at hSw); go_simp; try with_reducible rfl))) | (refine wpAnyH_take (i := 5) (v := undef) (by simp only [gA, gB, gC]; rfl) (by kernel_rfl) (by kernel_rfl) (by kernel_rfl) (by exact fun _ _ _ h => h) (Or.inr ⟨by rfl, rfl⟩) (by assumption) ?_) | fail); simp only [Act.put, sA, sB, sC, f0]
        (first | (refine wpAnyH_take (i := 6) (v := ?_) (by simp only [gA, gB, gC]; rfl) (by kernel_rfl) (by kernel_rfl) (by kernel_rfl) (by exact fun _ _ _ h => h) (Or.inl ⟨by rfl, ?_⟩) (by assumption) ?_; rotate_left; (focus (intro w hSw; (try dsimp only at hSw); go_simp; try with_reducible rfl))) | (refine wpAnyH_take (i := 6) (v := undef) (by simp only [gA, gB, gC]; rfl) (by kernel_rfl) (by kernel_rfl) (by kernel_rfl) (by exact fun _ _ _ h => h) (Or.inr ⟨by rfl, rfl⟩) (by assumption) ?_) | fail); simp only [Act.put, sA, sB, sC, f0]
        (first | (refine wpAnyH_take (i := 7) (v := ?_) (by simp only [gA, gB, gC]; rfl) (by kernel_rfl) (by kernel_rfl) (by kernel_rfl) (by exact fun _ _ _ h => h) (Or.inl ⟨by rfl, ?_⟩) (by assumption) ?_; rotate_left; (focus (intro w hSw; (try dsimp only at hSw); go_simp; try with_reducible rfl))) | (refine wpAnyH_take (i := 7) (v := undef) (by simp only [gA, gB, gC]; rfl) (by kernel_rfl) (by kernel_rfl) (by kernel_rfl) (by exact fun _ _ _ h => h) (Or.inr ⟨by rfl, rfl⟩) (by assumption) ?_) | fail); simp only [Act.put, sA, sB, sC, f0]
        (first | (refine wpAnyH_take (i := 8) (v := ?_) (by simp only [gA, gB, gC]; rfl) (by kernel_rfl) (by kernel_rfl) (by kernel_rfl) (by exact fun _ _ _ h => h) (Or.inl ⟨by rfl, ?_⟩) (by assumption) ?_; rotate_left; (focus (intro w hSw; (try dsimp only at hSw); go_simp; try with_reducible rfl))) | (refine wpAnyH_take (i := 8) (v := undef) (by simp only [gA, gB, gC]; rfl) (by kernel_rfl) (by kernel_rfl) (by kernel_rfl) (by exact fun _ _ _ h => h) (Or.inr ⟨by rfl, rfl⟩) (by assumption) ?_) | fail); simp only [Act.put, sA, sB, sC, f0]
        (first | (refine wpAnyH_take (i := 9) (v := ?_) (by simp only [gA, gB, gC]; rfl) (by kernel_rfl) (by kernel_rfl) (by kernel_rfl) (by exact fun _ _ _ h => h) (Or.inl ⟨by rfl, ?_⟩) (by assumption) ?_; rotate_left; (focus (intro w hSw; (try dsimp only at hSw); go_simp; try with_reducible rfl))) | (refine wpAnyH_take (i := 9) (v := undef) (by simp only [gA, gB, gC]; rfl) (by kernel_rfl) (by kernel_rfl) (by kernel_rfl) (by exact fun _ _ _ h => h) (Or.inr ⟨by rfl, rfl⟩) (by assumption) ?_) | fail); simp only [Act.put, sA, sB, sC, f0]
        (first | (refine wpAnyH_take (i := 10) (v := ?_) (by simp only [gA, gB, gC]; rfl) (by kernel_rfl) (by kernel_rfl) (by kernel_rfl) (by exact fun _ _ _ h => h) (Or.inl ⟨by rfl, ?_⟩) (by assumption) ?_; rotate_left; (focus (intro w hSw; (try dsimp only at hSw); go_simp; try with_reducible rfl))) | (refine wpAnyH_take (i := 10) (v := undef) (by simp only [gA, gB, gC]; rfl) (by kernel_rfl) (by kernel_rfl) (by kernel_rfl) (by exact fun _ _ _ h => h) (Or.inr ⟨by rfl, rfl⟩) (by assumption) ?_) | fail); simp only [Act.put, sA, sB, sC, f0]
        (first | (refine wpAnyH_take (i := 11) (v := ?_) (by simp only [gA, gB, gC]; rfl) (by kernel_rfl) (by kernel_rfl) (by kernel_rfl) (by exact fun _ _ _ h => h) (Or.inl ⟨by rfl, ?_⟩) (by assumption) ?_; rotate_left; (focus (intro w hSw; (try dsimp only at hSw); go_simp; try with_reducible rfl))) | (refine wpAnyH_take (i := 11) (v := undef) (by simp only [gA, gB, gC]; rfl) (by kernel_rfl) (by kernel_rfl) (by kernel_rfl) (by exact fun _ _ _ h => h) (Or.inr ⟨by rfl, rfl⟩) (by assumption) ?_) | fail); simp only [Act.put, sA, sB, sC, f0]
        (first | (refine wpAnyH_take (i := 12) (v := ?_) (by simp only [gA, gB, gC]; rfl) (by kernel_rfl) (by kernel_rfl) (by kernel_rfl) (by exact fun _ _ _ h => h) (Or.inl ⟨by rfl, ?_⟩) (by assumption) ?_; rotate_left; (focus (intro w hSw; (try dsimp only at hSw); go_simp; try with_reducible rfl))) | (refine wpAnyH_take (i := 12) (v := undef) (by simp only [gA, gB, gC]; rfl) (by kernel_rfl) (by kernel_rfl) (by kernel_rfl) (by exact fun _ _ _ h => h) (Or.inr ⟨by rfl, rfl⟩) (by assumption) ?_) | fail); simp only [Act.put, sA, sB, sC, f0]
        (first | (refine wpAnyH_take (i := 13) (v := ?_) (by simp only [gA, gB, gC]; rfl) (by kernel_rfl) (by kernel_rfl) (by kernel_rfl) (by exact fun _ _ _ h => h) (Or.inl ⟨by rfl, ?_⟩) (by assumption) ?_; rotate_left; (focus (intro w hSw; (try dsimp only at hSw); go_simp; try with_reducible rfl))) | (refine wpAnyH_take (i := 13) (v := undef) (by simp only [gA, gB, gC]; rfl) (by kernel_rfl) (by kernel_rfl) (by kernel_rfl) (by exact fun _ _ _ h => h) (Or.inr ⟨by rfl, rfl⟩) (by assumption) ?_) | fail); simp only [Act.put, sA, sB, sC, f0]
        refine wpAnyH_done (by kernel_rfl) ?_ _
        clear hc hc' q0 hrk hbk
        obtain ⟨A1, A2, v2, W2, v3, W3, v4, W4, hs1, hs2, hap2, hap3, hap4, hb2, ho4, hb4⟩ := put_tail wr.drew (some y) n c1 k m x hn.out hk hle1 hno1 hn1 hrkd
        have hbz : Blk W2 w.heap.size x.cs := hbkd.same (hb2.block _ (Nat.lt_of_lt_of_le hlt1 hBd.size))
        have hrg := hbz.range
        obtain ⟨ht1, ht2⟩ := tw_take m k hall (fun q hq => by rw [hz] at hq; obtain rfl := Option.some.inj hq; exact hlt2)
        rw [← ht1, ← ht2] at ho4
        replace ho4 := ho4.lower (Nat.le_trans (Nat.le_of_lt hlt1) hBd.size)
        have hBz := (hB2.trans (hBd.mono (Nat.le_of_lt hlt1))).trans (hb4.mono (Nat.le_trans (Nat.le_of_lt hlt1) hBd.size))
        obtain ⟨cs, hcx⟩ : ∃ cs, x.cs = cs := ⟨_, rfl⟩
        have hlen : cs.length = 16 := by rw [← hcx]; rfl
        rw [hcx] at hrg hap3
        rw [← hlen] at hsz
        clear hcx hcs hbz hb1 ht1 ht2 hb4 hb2
        go_wp2_with (first | (refine wpList_load_row rfl _ rfl w.heap.size rfl cs hrg hund rfl hsz ?_) | (refine wpList_build1 pn_ok (by decide) rfl _ rfl cs rfl hlen ?_) | (refine wpList_append rfl _ _ rfl rfl rfl rfl hap2 ?_) | (refine wpList_append rfl _ _ rfl rfl rfl rfl hap3 ?_) | (refine wpList_append rfl _ _ rfl rfl rfl rfl hap4 ?_) | fail)
        go_ret
        exact ⟨_, rfl, ho4, hBz⟩
      · have f0 : Op.bytesLess z.n.path.toList x.n.path.toList = true := by exact hlt2
        clear hc hc' q0 hrk hbk
        go_wp2_with fail
        refine wp_region_held_drew (S := (fun W : World => W.cell? (y.add (k * 16)) = some (.string z.n.path) ∧ W.cell? ⟨w.heap.size, 0, none⟩ = some (.string x.n.path))) (by kernel_rfl) (by exact hS0) ?_
        intro hHeld
        (first | (refine wpAnyH_take (i := 0) (v := ?_) (by simp only [gA, gB, gC]; rfl) (by kernel_rfl) (by kernel_rfl) (by kernel_rfl) (by exact fun _ _ _ h => h) (Or.inl ⟨by rfl, ?_⟩) (by assumption) ?_; rotate_left; (focus (intro w hSw; (try dsimp only at hSw); go_simp; try with_reducible rfl))) | (refine wpAnyH_take (i := 0) (v := undef) (by simp only [gA, gB, gC]; rfl) (by kernel_rfl) (by kernel_rfl) (by kernel_rfl) (by exact fun _ _ _ h => h) (Or.inr ⟨by rfl, rfl⟩) (by assumption) ?_) | fail); simp only [Act.put, sA, sB, sC, f0]
        (first | (refine wpAnyH_take (i := 1) (v := ?_) (by simp only [gA, gB, gC]; rfl) (by kernel_rfl) (by kernel_rfl) (by kernel_rfl) (by exact fun _ _ _ h => h) (Or.inl ⟨by rfl, ?_⟩) (by assumption) ?_; rotate_left; (focus (intro w hSw; (try dsimp only at hSw); go_simp; try with_reducible rfl))) | (refine wpAnyH_take (i := 1) (v := undef) (by simp only [gA, gB, gC]; rfl) (by kernel_rfl) (by kernel_rfl) (by kernel_rfl) (by exact fun _ _ _ h => h) (Or.inr ⟨by rfl, rfl⟩) (by assumption) ?_) | fail); simp only [Act.put, sA, sB, sC, f0]
        (first | (refine wpAnyH_take (i := 2) (v := ?_) (by simp only [gA, gB, gC]; rfl) (by kernel_rfl) (by kernel_rfl) (by kernel_rfl) (by exact fun _ _ _ h => h) (Or.inl ⟨by rfl, ?_⟩) (by assumption) ?_; rotate_left; (focus (intro w hSw; (try dsimp only at hSw); go_simp; try with_reducible rfl))) | (refine wpAnyH_take (i := 2) (v := undef) (by simp only [gA, gB, gC]; rfl) (by kernel_rfl) (by kernel_rfl) (by kernel_rfl) (by exact fun _ _ _ h => h) (Or.inr ⟨by rfl, rfl⟩) (by assumption) ?_) | fail); simp only [Act.put, sA, sB, sC, f0]
        (first | (refine wpAnyH_take (i := 3) (v := ?_) (by simp only [gA, gB, gC]; rfl) (by kernel_rfl) (by kernel_rfl) (by kernel_rfl) (by exact fun _ _ _ h => h) (Or.inl ⟨by rfl, ?_⟩) (by assumption) ?_; rotate_left; (focus (intro w hSw; (try dsimp only at hSw); go_simp; try with_reducible rfl))) | (refine wpAnyH_take (i := 3) (v := undef) (by simp only [gA, gB, gC]; rfl) (by kernel_rfl) (by kernel_rfl) (by kernel_rfl) (by exact fun _ _ _ h => h) (Or.inr ⟨by rfl, rfl⟩) (by assumption) ?_) | fail); simp only [Act.put, sA, sB, sC, f0]
        (first | (refine wpAnyH_take (i := 4) (v := ?_) (by simp only [gA, gB, gC]; rfl) (by kernel_rfl) (by kernel_rfl) (by kernel_rfl) (by exact fun _ _ _ h => h) (Or.inl ⟨by rfl, ?_⟩) (by assumption) ?_; rotate_left; (focus (intro w hSw; (try dsimp only at hSw); go_simp; try with_reducible rfl))) | (refine wpAnyH_take (i := 4) (v := undef) (by simp only [gA, gB, gC]; rfl) (by kernel_rfl) (by kernel_rfl) (by kernel_rfl) (by exact fun _ _ _ h => h) (Or.inr ⟨by rfl, rfl⟩) (by assumption) ?_) | fail); simp only [Act.put, sA, sB, sC, f0]
        (first | (refine wpAnyH_take (i := 5) (v := ?_) (by simp only [gA, gB, gC]; rfl) (by kernel_rfl) (by kernel_rfl) (by kernel_rfl) (by exact fun _ _ _ h => h) (Or.inl ⟨by rfl, ?_⟩) (by assumption) ?_; rotate_left; (focus (intro w hSw; (try dsimp only at hSw); go_simp; try with_reducible rfl))) | (refine wpAnyH_take (i := 5) (v := undef) (by simp only [gA, gB, gC]; rfl) (by kernel_rfl) (by kernel_rfl) (by kernel_rfl) (by exact fun _ _ _ h => h) (Or.inr ⟨by rfl, rfl⟩) (by assumption) ?_) | fail); simp only [Act.put, sA, sB, sC, f0]
        (first | (refine wpAnyH_take (i := 6) (v := ?_) (by simp only [gA, gB, gC]; rfl) (by kernel_rfl) (by kernel_rfl) (by kernel_rfl) (by exact fun _ _ _ h => h) (Or.inl ⟨by rfl, ?_⟩) (by assumption) ?_; rotate_left; (focus (intro w hSw; (try dsimp only at hSw); go_simp; try with_reducible rfl))) | (refine wpAnyH_take (i := 6) (v := undef) (by simp only [gA, gB, gC]; rfl) (by kernel_rfl) (by kernel_rfl) (by kernel_rfl) (by exact fun _ _ _ h => h) (Or.inr ⟨by rfl, rfl⟩) (by assumption) ?_) | fail); simp only [Act.put, sA, sB, sC, f0]
        (first | (refine wpAnyH_take (i := 7) (v := ?_) (by simp only [gA, gB, gC]; rfl) (by kernel_rfl) (by kernel_rfl) (by kernel_rfl) (by exact fun _ _ _ h => h) (Or.inl ⟨by rfl, ?_⟩) (by assumption) ?_; rotate_left; (focus (intro w hSw; (try dsimp only at hSw); go_simp; try with_reducible rfl))) | (refine wpAnyH_take (i := 7) (v := undef) (by simp only [gA, gB, gC]; rfl) (by kernel_rfl) (by kernel_rfl) (by kernel_rfl) (by exact fun _ _ _ h => h) (Or.inr ⟨by rfl, rfl⟩) (by assumption) ?_) | fail); simp only [Act.put, sA, sB, sC, f0]
        (first | (refine wpAnyH_take (i := 8) (v := ?_) (by simp only [gA, gB, gC]; rfl) (by kernel_rfl) (by kernel_rfl) (by kernel_rfl) (by exact fun _ _ _ h => h) (Or.inl ⟨by rfl, ?_⟩) (by assumption) ?_; rotate_left; (focus (intro w hSw; (try dsimp only at hSw); go_simp; try with_reducible rfl))) | (refine wpAnyH_take (i := 8) (v := undef) (by simp only [gA, gB, gC]; rfl) (by kernel_rfl) (by kernel_rfl) (by kernel_rfl) (by exact fun _ _ _ h => h) (Or.inr ⟨by rfl, rfl⟩) (by assumption) ?_) | fail); simp only [Act.put, sA, sB, sC, f0]
        (first | (refine wpAnyH_take (i := 9) (v := ?_) (by simp only [gA, gB, gC]; rfl) (by kernel_rfl) (by kernel_rfl) (by kernel_rfl) (by exact fun _ _ _ h => h) (Or.inl ⟨by rfl, ?_⟩) (by assumption) ?_; rotate_left; (focus (intro w hSw; (try dsimp only at hSw); go_simp; try with_reducible rfl))) | (refine wpAnyH_take (i := 9) (v := undef) (by simp only [gA, gB, gC]; rfl) (by kernel_rfl) (by kernel_rfl) (by kernel_rfl) (by exact fun _ _ _ h => h) (Or.inr ⟨by rfl, rfl⟩) (by assumption) ?_) | fail); simp only [Act.put, sA, sB, sC, f0]
        (first | (refine wpAnyH_take (i := 10) (v := ?_) (by simp only [gA, gB, gC]; rfl) (by kernel_rfl) (by kernel_rfl) (by kernel_rfl) (by exact fun _ _ _ h => h) (Or.inl ⟨by rfl, ?_⟩) (by assumption) ?_; rotate_left; (focus (intro w hSw; (try dsimp only at hSw); go_simp; try with_reducible rfl))) | (refine wpAnyH_take (i := 10) (v := undef) (by simp only [gA, gB, gC]; rfl) (by kernel_rfl) (by kernel_rfl) (by kernel_rfl) (by exact fun _ _ _ h => h) (Or.inr ⟨by rfl, rfl⟩) (by assumption) ?_) | fail); simp only [Act.put, sA, sB, sC, f0]
        (first | (refine wpAnyH_take (i := 11) (v := ?_) (by simp only [gA, gB, gC]; rfl) (by kernel_rfl) (by kernel_rfl) (by kernel_rfl) (by exact fun _ _ _ h => h) (Or.inl ⟨by rfl, ?_⟩) (by assumption) ?_; rotate_left; (focus (intro w hSw; (try dsimp only at hSw); go_simp; try with_reducible rfl))) | (refine wpAnyH_take (i := 11) (v := undef) (by simp only [gA, gB, gC]; rfl) (by kernel_rfl) (by kernel_rfl) (by kernel_rfl) (by exact fun _ _ _ h => h) (Or.inr ⟨by rfl, rfl⟩) (by assumption) ?_) | fail); simp only [Act.put, sA, sB, sC, f0]
        (first | (refine wpAnyH_take (i := 12) (v := ?_) (by simp only [gA, gB, gC]; rfl) (by kernel_rfl) (by kernel_rfl) (by kernel_rfl) (by exact fun _ _ _ h => h) (Or.inl ⟨by rfl, ?_⟩) (by assumption) ?_; rotate_left; (focus (intro w hSw; (try dsimp only at hSw); go_simp; try with_reducible rfl))) | (refine wpAnyH_take (i := 12) (v := undef) (by simp only [gA, gB, gC]; rfl) (by kernel_rfl) (by kernel_rfl) (by kernel_rfl) (by exact fun _ _ _ h => h) (Or.inr ⟨by rfl, rfl⟩) (by assumption) ?_) | fail); simp only [Act.put, sA, sB, sC, f0]
        (first | (refine wpAnyH_take (i := 13) (v := ?_) (by simp only [gA, gB, gC]; rfl) (by kernel_rfl) (by kernel_rfl) (by kernel_rfl) (by exact fun _ _ _ h => h) (Or.inl ⟨by rfl, ?_⟩) (by assumption) ?_; rotate_left; (focus (intro w hSw; (try dsimp only at hSw); go_simp; try with_reducible rfl))) | (refine wpAnyH_take (i := 13) (v := undef) (by simp only [gA, gB, gC]; rfl) (by kernel_rfl) (by kernel_rfl) (by kernel_rfl) (by exact fun _ _ _ h => h) (Or.inr ⟨by rfl, rfl⟩) (by assumption) ?_) | fail); simp only [Act.put, sA, sB, sC, f0]
        refine wpAnyH_done (by kernel_rfl) ?_ _
        go_wp2_with fail
        refine ⟨⟨k + 1, by omega, by simp, fun q hq => ?_, hBd⟩, by simp [Go.RowKit.intOf]; omega⟩
        rw [List.take_add_one, hz, List.mem_append] at hq
        rcases hq with hq | hq
        · exact hall q hq
        · simp at hq
          rw [hq]
          exact hlt2
    · have hi1 : ¬ (k : Int) < (n : Int) := by omega
      have hbkd : Blk wr.drew w.heap.size x.cs := hbk
      have hrkd : RowAt 16 PN.cs wr.drew a1 m := hrk
      have hBd := hB.drew
      have hS0 : (fun W : World => W.cell? ⟨w.heap.size, 0, none⟩ = some (.string x.n.path)) wr.drew := q0
      go_wp2_with fail
      refine wp_region_held_drew (S := (fun W : World => W.cell? ⟨w.heap.size, 0, none⟩ = some (.string x.n.path))) (by kernel_rfl) (by exact hS0) ?_
      intro hHeld
      (first | (refine wpAnyH_take (i := 0) (v := ?_) (by simp only [gA, gB, gC]; rfl) (by kernel_rfl) (by kernel_rfl) (by kernel_rfl) (by exact fun _ _ _ h => h) (Or.inl ⟨by rfl, ?_⟩) (by assumption) ?_; rotate_left; (focus (intro w hSw; (try dsimp only at hSw); go_simp; try with_reducible rfl))) | (refine wpAnyH_take (i := 0) (v := undef) (by simp only [gA, gB, gC]; rfl) (by kernel_rfl) (by kernel_rfl) (by kernel_rfl) (by exact fun _ _ _ h => h) (Or.inr ⟨by rfl, rfl⟩) (by assumption) ?_) | fail); simp only [Act.put, sA, sB, sC]
      (first | (refine wpAnyH_take (i := 1) (v := ?_) (by simp only [gA, gB, gC]; rfl) (by kernel_rfl) (by kernel_rfl) (by kernel_rfl) (by exact fun _ _ _ h => h) (Or.inl ⟨by rfl, ?_⟩) (by assumption) ?_; rotate_left; (focus (intro w hSw; (try dsimp only at hSw); go_simp; try with_reducible rfl))) | (refine wpAnyH_take (i := 1) (v := undef) (by simp only [gA, gB, gC]; rfl) (by kernel_rfl) (by kernel_rfl) (by kernel_rfl) (by exact fun _ _ _ h => h) (Or.inr ⟨by rfl, rfl⟩) (by assumption) ?_) | fail); simp only [Act.put, sA, sB, sC]
      (first | (refine wpAnyH_take (i := 2) (v := ?_) (by simp only [gA, gB, gC]; rfl) (by kernel_rfl) (by kernel_rfl) (by kernel_rfl) (by exact fun _ _ _ h => h) (Or.inl ⟨by rfl, ?_⟩) (by assumption) ?_; rotate_left; (focus (intro w hSw; (try dsimp only at hSw); go_simp; try with_reducible rfl))) | (refine wpAnyH_take (i := 2) (v := undef) (by simp only [gA, gB, gC]; rfl) (by kernel_rfl) (by kernel_rfl) (by kernel_rfl) (by exact fun _ _ _ h => h) (Or.inr ⟨by rfl, rfl⟩) (by assumption) ?_) | fail); simp only [Act.put, sA, sB, sC]
      (first | (refine wpAnyH_take (i := 3) (v := ?_) (by simp only [gA, gB, gC]; rfl) (by kernel_rfl) (by kernel_rfl) (by kernel_rfl) (by exact fun _ _ _ h => h) (Or.inl ⟨by rfl, ?_⟩) (by assumption) ?_; rotate_left; (focus (intro w hSw; (try dsimp only at hSw); go_simp; try with_reducible rfl))) | (refine wpAnyH_take (i := 3) (v := undef) (by simp only [gA, gB, gC]; rfl) (by kernel_rfl) (by kernel_rfl) (by kernel_rfl) (by exact fun _ _ _ h => h) (Or.inr ⟨by rfl, rfl⟩) (by assumption) ?_) | fail); simp only [Act.put, sA, sB, sC]
      (first | (refine wpAnyH_take (i := 4) (v := ?_) (by simp only [gA, gB, gC]; rfl) (by kernel_rfl) (by kernel_rfl) (by kernel_rfl) (by exact fun _ _ _ h => h) (Or.inl ⟨by rfl, ?_⟩) (by assumption) ?_; rotate_left; (focus (intro w hSw; (try dsimp only at hSw); go_simp; try with_reducible rfl))) | (refine wpAnyH_take (i := 4) (v := undef) (by simp only [gA, gB, gC]; rfl) (by kernel_rfl) (by kernel_rfl) (by kernel_rfl) (by exact fun _ _ _ h => h) (Or.inr ⟨by rfl, rfl⟩) (by assumption) ?_) | fail); simp only [Act.put, sA, sB, sC]
      (first | (refine wpAnyH_take (i := 5) (v := ?_) (by simp only [gA, gB, gC]; rfl) (by kernel_rfl) (by kernel_rfl) (by kernel_rfl) (by exact fun _ _ _ h => h) (Or.inl ⟨by rfl, ?_⟩) (by assumption) ?_; rotate_left; (focus (intro w hSw; (try dsimp only at hSw); go_simp; try with_reducible rfl))) | (refine wpAnyH_take (i := 5) (v := undef) (by simp only [gA, gB, gC]; rfl) (by kernel_rfl) (by kernel_rfl) (by kernel_rfl) (by exact fun _ _ _ h => h) (Or.inr ⟨by rfl, rfl⟩) (by assumption) ?_) | fail); simp only [Act.put, sA, sB, sC]
      (first | (refine wpAnyH_take (i := 6) (v := ?_) (by simp only [gA, gB, gC]; rfl) (by kernel_rfl) (by kernel_rfl) (by kernel_rfl) (by exact fun _ _ _ h => h) (Or.inl ⟨by rfl, ?_⟩) (by assumption) ?_; rotate_left; (focus (intro w hSw; (try dsimp only at hSw); go_simp; try with_reducible rfl))) | (refine wpAnyH_take (i := 6) (v := undef) (by simp only [gA, gB, gC]; rfl) (by kernel_rfl) (by kernel_rfl) (by kernel_rfl) (by exact fun _ _ _ h => h) (Or.inr ⟨by rfl, rfl⟩) (by assumption) ?_) | fail); simp only [Act.put, sA, sB, sC]
      (first | (refine wpAnyH_take (i := 7) (v := ?_) (by simp only [gA, gB, gC]; rfl) (by kernel_rfl) (by kernel_rfl) (by kernel_rfl) (by exact fun _ _ _ h => h) (Or.inl ⟨by rfl, ?_⟩) (by assumption) ?_; rotate_left; (focus (intro w hSw; (try dsimp only at hSw); go_simp; try with_reducible rfl))) | (refine wpAnyH_take (i := 7) (v := undef) (by simp only [gA, gB, gC]; rfl) (by kernel_rfl) (by kernel_rfl) (by kernel_rfl) (by exact fun _ _ _ h => h) (Or.inr ⟨by rfl, rfl⟩) (by assumption) ?_) | fail); simp only [Act.put, sA, sB, sC]
      (first | (refine wpAnyH_take (i := 8) (v := ?_) (by simp only [gA, gB, gC]; rfl) (by kernel_rfl) (by kernel_rfl) (by kernel_rfl) (by exact fun _ _ _ h => h) (Or.inl ⟨by rfl, ?_⟩) (by assumption) ?_; rotate_left; (focus (intro w hSw; (try dsimp only at hSw); go_simp; try with_reducible rfl))) | (refine wpAnyH_take (i := 8) (v := undef) (by simp only [gA, gB, gC]; rfl) (by kernel_rfl) (by kernel_rfl) (by kernel_rfl) (by exact fun _ _ _ h => h) (Or.inr ⟨by rfl, rfl⟩) (by assumption) ?_) | fail); simp only [Act.put, sA, sB, sC]
      (first | (refine wpAnyH_take (i := 9) (v := ?_) (by simp only [gA, gB, gC]; rfl) (by kernel_rfl) (by kernel_rfl) (by kernel_rfl) (by exact fun _ _ _ h => h) (Or.inl ⟨by rfl, ?_⟩) (by assumption) ?_; rotate_left; (focus (intro w hSw; (try dsimp only at hSw); go_simp; try with_reducible rfl))) | (refine wpAnyH_take (i := 9) (v := undef) (by simp only [gA, gB, gC]; rfl) (by kernel_rfl) (by kernel_rfl) (by kernel_rfl) (by exact fun _ _ _ h => h) (Or.inr ⟨by rfl, rfl⟩) (by assumption) ?_) | fail); simp only [Act.put, sA, sB, sC]
      (first | (refine wpAnyH_take (i := 10) (v := ?_) (by simp only [gA, gB, gC]; rfl) (by kernel_rfl) (by kernel_rfl) (by kernel_rfl) (by exact fun _ _ _ h => h) (Or.inl ⟨by rfl, ?_⟩) (by assumption) ?_; rotate_left; (focus (intro w hSw; (try dsimp only at hSw); go_simp; try with_reducible rfl))) | (refine wpAnyH_take (i := 10) (v := undef) (by simp only [gA, gB, gC]; rfl) (by kernel_rfl) (by kernel_rfl) (by kernel_rfl) (by exact fun _ _ _ h => h) (Or.inr ⟨by rfl, rfl⟩) (by assumption) ?_) | fail); simp only [Act.put, sA, sB, sC]
      (first | (refine wpAnyH_take (i := 11) (v := ?_) (by simp only [gA, gB, gC]; rfl) (by kernel_rfl) (by kernel_rfl) (by kernel_rfl) (by exact fun _ _ _ h => h) (Or.inl ⟨by rfl, ?_⟩) (by assumption) ?_; rotate_left; (focus (intro w hSw; (try dsimp only at hSw); go_simp; try with_reducible rfl))) | (refine wpAnyH_take (i := 11) (v := undef) (by simp only [gA, gB, gC]; rfl) (by kernel_rfl) (by kernel_rfl) (by kernel_rfl) (by exact fun _ _ _ h => h) (Or.inr ⟨by rfl, rfl⟩) (by assumption) ?_) | fail); simp only [Act.put, sA, sB, sC]
      (first | (refine wpAnyH_take (i := 12) (v := ?_) (by simp only [gA, gB, gC]; rfl) (by kernel_rfl) (by kernel_rfl) (by kernel_rfl) (by exact fun _ _ _ h => h) (Or.inl ⟨by rfl, ?_⟩) (by assumption) ?_; rotate_left; (focus (intro w hSw; (try dsimp only at hSw); go_simp; try with_reducible rfl))) | (refine wpAnyH_take (i := 12) (v := undef) (by simp only [gA, gB, gC]; rfl) (by kernel_rfl) (by kernel_rfl) (by kernel_rfl) (by exact fun _ _ _ h => h) (Or.inr ⟨by rfl, rfl⟩) (by assumption) ?_) | fail); simp only [Act.put, sA, sB, sC]
      (first | (refine wpAnyH_take (i := 13) (v := ?_) (by simp only [gA, gB, gC]; rfl) (by kernel_rfl) (by kernel_rfl) (by kernel_rfl) (by exact fun _ _ _ h => h) (Or.inl ⟨by rfl, ?_⟩) (by assumption) ?_; rotate_left; (focus (intro w hSw; (try dsimp only at hSw); go_simp; try with_reducible rfl))) | (refine wpAnyH_take (i := 13) (v := undef) (by simp only [gA, gB, gC]; rfl) (by kernel_rfl) (by kernel_rfl) (by kernel_rfl) (by exact fun _ _ _ h => h) (Or.inr ⟨by rfl, rfl⟩) (by assumption) ?_) | fail); simp only [Act.put, sA, sB, sC]
      refine wpAnyH_done (by kernel_rfl) ?_ _
      clear q0 hrk hbk
      obtain ⟨A1, A2, v2, W2, v3, W3, v4, W4, hs1, hs2, hap2, hap3, hap4, hb2, ho4, hb4⟩ := put_tail wr.drew a1 n c1 k m x hn.out hk hle1 hno1 hn1 hrkd
      have hbz : Blk W2 w.heap.size x.cs := hbkd.same (hb2.block _ (Nat.lt_of_lt_of_le hlt1 hBd.size))
      have hrg := hbz.range
      obtain ⟨ht1, ht2⟩ := tw_take m k hall (fun q hq => by have := (List.getElem?_eq_some_iff.1 hq).1; rw [hn.out] at this; omega)
      rw [← ht1, ← ht2] at ho4
      replace ho4 := ho4.lower (Nat.le_trans (Nat.le_of_lt hlt1) hBd.size)
      have hBz := (hB2.trans (hBd.mono (Nat.le_of_lt hlt1))).trans (hb4.mono (Nat.le_trans (Nat.le_of_lt hlt1) hBd.size))
      obtain ⟨cs, hcx⟩ : ∃ cs, x.cs = cs := ⟨_, rfl⟩
      have hlen : cs.length = 16 := by rw [← hcx]; rfl
      rw [hcx] at hrg hap3
      rw [← hlen] at hsz
      clear hcx hcs hbz hb1 ht1 ht2 hb4 hb2
      go_wp2_with (first | (refine wpList_load_row rfl _ rfl w.heap.size rfl cs hrg hund rfl hsz ?_) | (refine wpList_build1 pn_ok (by decide) rfl _ rfl cs rfl hlen ?_) | (refine wpList_append rfl _ _ rfl rfl rfl rfl hap2 ?_) | (refine wpList_append rfl _ _ rfl rfl rfl rfl hap3 ?_) | (refine wpList_append rfl _ _ rfl rfl rfl rfl hap4 ?_) | fail)
      go_ret
      exact ⟨_, rfl, ho4, hBz⟩
end Go.Proofs.YtacjfbomjglnjaaDoor

/-! TREES THAT ARE GROWN, in plain words: the first nodes of a config, lists of grants such as may be, nodes put upon them. -/
namespace Go.Proofs.YtacjfbomjglnjaaDoor
open Go.RowKit
set_option maxRecDepth 8000
set_option linter.unusedSimpArgs false
set_option linter.unusedVariables false

/-! What may be. -/
theorem chkL_zero {l : Lab} : chkL l = 0 ↔ GL l := by
  unfold chkL okL
  constructor
  · intro h
    split at h
    · rename_i h1
      simp only [inB, Bool.and_eq_true, decide_eq_true_eq] at h1
      constructor <;> omega
    · cases h
  · intro h
    obtain ⟨a, b, c, d, e, f, g, i⟩ := h
    rw [if_pos]
    simp only [inB, Bool.and_eq_true, decide_eq_true_eq]
    omega
theorem nodC_zero {x : Nod} : nodC x = 0 ↔ checkOf x.path = 0 ∧ GL x.label ∧ GL x.by_ ∧ chkA x.acl = 0 ∧ (x.dir = true → rz x = true ∧ x.words.length = 0) ∧ (x.dir = false → x.path ≠ slashS ∧ OkR x.rg ∧ x.words.length ≤ 16) := by
  rw [← chkL_zero, ← chkL_zero]
  have hr : chkR x.rg = 0 ↔ OkR x.rg := by
    unfold chkR
    by_cases q : OkR x.rg
    · rw [if_pos q]; exact ⟨fun _ => q, fun _ => rfl⟩
    · rw [if_neg q]; exact ⟨fun e => absurd e (by decide), fun e => absurd e q⟩
  unfold nodC
  by_cases h1 : checkOf x.path = 0
  · by_cases h2 : chkL x.label = 0
    · by_cases h3 : chkL x.by_ = 0
      · by_cases h4 : chkA x.acl = 0
        · rw [if_neg (by simp [h1]), if_neg (by simp [h2]), if_neg (by simp [h3]), if_neg (by simp [h4])]
          simp only [h1, h2, h3, h4, true_and]
          cases hd : x.dir
          · simp only [Bool.false_eq_true, if_false, false_implies, true_and, true_implies]
            unfold segC
            rw [← hr]
            by_cases h5 : eqs x.path slashS = true
            · rw [if_pos h5]
              exact ⟨fun h => (by cases h), fun h => absurd (eqs_iff.1 h5) h.1⟩
            · rw [if_neg h5]
              have h5' : x.path ≠ slashS := fun e => h5 (eqs_iff.2 e)
              by_cases h6 : chkR x.rg = 0
              · rw [if_neg (by simp [h6])]
                by_cases h7 : 16 < x.words.length
                · rw [if_pos h7]
                  exact ⟨fun h => (by cases h), fun h => by omega⟩
                · rw [if_neg h7]
                  exact ⟨fun _ => ⟨h5', h6, by omega⟩, fun _ => rfl⟩
              · rw [if_pos h6]
                exact ⟨fun h => absurd h h6, fun h => h.2.1⟩
          · simp only [if_true, true_implies, Bool.true_eq_false, false_implies, and_true]
            unfold dirC
            by_cases h5 : rz x = true ∧ x.words.length = 0
            · rw [if_pos h5]
              exact ⟨fun _ => h5, fun _ => rfl⟩
            · rw [if_neg h5]
              exact ⟨fun h => (by cases h), fun h => absurd h h5⟩
        · rw [if_neg (by simp [h1]), if_neg (by simp [h2]), if_neg (by simp [h3]), if_pos h4]
          exact ⟨fun h => absurd h h4, fun h => h.2.2.2.1⟩
      · rw [if_neg (by simp [h1]), if_neg (by simp [h2]), if_pos h3]
        exact ⟨fun h => absurd h h3, fun h => h.2.2.1⟩
    · rw [if_neg (by simp [h1]), if_pos h2]
      exact ⟨fun h => absurd h h2, fun h => h.2.1⟩
  · rw [if_pos h1]
    exact ⟨fun h => absurd h h1, fun h => h.1⟩

/-! The first nodes. -/
def starS : ByteArray := ⟨#[42]⟩
def allG : List Gr := [⟨starS, 7⟩]
def nmK (k : Nat) : ByteArray := ⟨#[108, UInt8.ofNat (48 + k)]⟩
def rootN : Nod := ⟨slashS, true, bottomL, allG, 0, 0, 0, 0, [], bottomL⟩
def dirN (k : Nat) (t : Lab) : Nod := ⟨⟨#[47, 108, UInt8.ofNat (48 + k)]⟩, true, t, allG, 0, 0, 0, 0, [], bottomL⟩
def distTo (ts : List Lab) : Nat → List Lab
  | 0 => []
  | i + 1 => if (ts.take i).any (fun t => labEq t (ts.getD i bottomL)) = true then distTo ts i else distTo ts i ++ [ts.getD i bottomL]
def firstTo (ts : List Lab) (i : Nat) : List Nod := rootN :: (distTo ts i).mapIdx dirN
def firstN (ts : List Lab) : List Nod := firstTo ts ts.length
theorem dist_len (ts : List Lab) : ∀ i, (distTo ts i).length ≤ i
  | 0 => Nat.le_refl _
  | i + 1 => by
    have := dist_len ts i
    rw [distTo]
    split
    · omega
    · simp; omega
theorem first_succ (ts : List Lab) (i : Nat) : firstTo ts (i + 1) = if (ts.take i).any (fun t => labEq t (ts.getD i bottomL)) = true then firstTo ts i else firstTo ts i ++ [dirN (distTo ts i).length (ts.getD i bottomL)] := by
  unfold firstTo
  rw [distTo]
  split
  · rfl
  · rw [List.mapIdx_concat]
    rfl
theorem dist_mem (ts : List Lab) : ∀ i, i ≤ ts.length → ∀ t, t ∈ distTo ts i ↔ t ∈ ts.take i
  | 0, _, t => by simp [distTo]
  | i + 1, hi, t => by
    have ih := dist_mem ts i (by omega) t
    have hg : ts.getD i bottomL = ts[i] := by rw [List.getD_eq_getElem?_getD, List.getElem?_eq_getElem (by omega)]; rfl
    rw [distTo, hg, List.take_add_one, List.getElem?_eq_getElem (by omega)]
    simp only [Option.toList, List.mem_append, List.mem_singleton]
    split
    · rename_i h
      rw [ih]
      constructor
      · exact fun q => .inl q
      · rintro (q | rfl)
        · exact q
        · obtain ⟨u, hu, he⟩ := List.any_eq_true.1 h
          rw [← (labEq_iff _ _).1 he]
          exact hu
    · rw [List.mem_append, ih, List.mem_singleton]
theorem dist_nodup (ts : List Lab) : ∀ i, i ≤ ts.length → (distTo ts i).Nodup
  | 0, _ => List.nodup_nil
  | i + 1, hi => by
    have ih := dist_nodup ts i (by omega)
    rw [distTo]
    split
    · exact ih
    · rename_i h
      refine List.nodup_append.2 ⟨ih, by simp, fun a ha b hb => ?_⟩
      rw [List.mem_singleton] at hb
      subst hb
      rintro rfl
      apply h
      rw [dist_mem ts i (by omega)] at ha
      exact List.any_eq_true.2 ⟨_, ha, (labEq_iff _ _).2 rfl⟩
theorem dir_path (k : Nat) (t : Lab) : (dirN k t).path = pathB [nmK k] := by
  apply bytes_inj
  rw [pathB_bytes (by simp), body_one]
  rfl
theorem nmK_name {k : Nat} (h : k < 10) : name (nmK k) = true := by
  have : ∀ k : Fin 10, name (nmK k) = true := by decide +kernel
  exact this ⟨k, h⟩
theorem nmK_names {k : Nat} (h : k < 10) : Names [nmK k] := ⟨by simp, fun n hn => by rw [List.mem_singleton] at hn; subst hn; exact nmK_name h⟩
theorem dir_lt {j k : Nat} (h : j < k) (hk : k < 10) (t u : Lab) : lt (dirN j t).path (dirN k u).path = true := by
  have : ∀ k : Fin 10, ∀ j : Fin 10, j.val < k.val → lt ⟨#[47, 108, UInt8.ofNat (48 + j.val)]⟩ ⟨#[47, 108, UInt8.ofNat (48 + k.val)]⟩ = true := by decide +kernel
  exact this ⟨k, hk⟩ ⟨j, by omega⟩ h
theorem root_lt {k : Nat} (hk : k < 10) (t : Lab) : lt rootN.path (dirN k t).path = true := by
  have : ∀ k : Fin 10, lt slashS ⟨#[47, 108, UInt8.ofNat (48 + k.val)]⟩ = true := by decide +kernel
  exact this ⟨k, hk⟩
theorem all_ok : chkA allG = 0 := by decide +kernel
theorem rov_bot {l : Lab} (h : GL l) : rov l bottomL = true := by
  obtain ⟨n, rfl, hn⟩ := h.nl
  rw [← bot_lab, rov_ov hn bot_ok, ov_iff hn bot_ok]
  exact over_bot hn
theorem slash_chk : checkOf slashS = 0 := by rw [← pathB_nil]; exact check_names ⟨by simp, fun n hn => by cases hn⟩
theorem root_ok : nodC rootN = 0 := nodC_zero.2 ⟨slash_chk, bottom_GL, bottom_GL, all_ok, fun _ => ⟨by decide, rfl⟩, fun h => by cases h⟩
theorem dir_ok {k : Nat} (hk : k < 10) {t : Lab} (ht : GL t) : nodC (dirN k t) = 0 := nodC_zero.2 ⟨by rw [dir_path]; exact check_names (nmK_names hk), ht, bottom_GL, all_ok, fun _ => ⟨rfl, rfl⟩, fun h => by cases h⟩
theorem first_mem {ts : List Lab} {i : Nat} {x : Nod} (h : x ∈ firstTo ts i) : x = rootN ∨ ∃ k t, k < (distTo ts i).length ∧ (distTo ts i)[k]? = some t ∧ x = dirN k t := by
  unfold firstTo at h
  rcases List.mem_cons.1 h with h | h
  · exact .inl h
  · obtain ⟨k, hk⟩ := List.mem_iff_getElem?.1 h
    rw [List.getElem?_mapIdx] at hk
    cases hd : (distTo ts i)[k]? with
    | none => rw [hd] at hk; cases hk
    | some t =>
      rw [hd] at hk
      exact .inr ⟨k, t, (List.getElem?_eq_some_iff.1 hd).1, hd, (Option.some.inj hk).symm⟩
theorem first_tree {ts : List Lab} (hg : ∀ t ∈ ts, GL t) (hn : ts.length < 10) : Tree (firstN ts) := by
  have hl := dist_len ts ts.length
  have hgl : ∀ k t, (distTo ts ts.length)[k]? = some t → GL t := fun k t h => hg t (by
    have := (dist_mem ts ts.length (Nat.le_refl _) t).1 (List.mem_of_getElem? h)
    rwa [List.take_length] at this)
  refine ⟨fun x hx => ?_, ?_, ⟨rootN, List.mem_cons_self, rfl, rfl⟩, fun x hx hs => ?_⟩
  · rcases first_mem hx with rfl | ⟨k, t, hk, ht, rfl⟩
    · exact root_ok
    · exact dir_ok (by omega) (hgl k t ht)
  · refine List.pairwise_cons.2 ⟨fun y hy => ?_, ?_⟩
    · rcases first_mem (ts := ts) (i := ts.length) (List.mem_cons_of_mem _ hy) with rfl | ⟨k, t, hk, ht, rfl⟩
      · exfalso
        obtain ⟨k, hk⟩ := List.mem_iff_getElem?.1 hy
        rw [List.getElem?_mapIdx] at hk
        cases hd : (distTo ts ts.length)[k]? with
        | none => rw [hd] at hk; cases hk
        | some t =>
          rw [hd] at hk
          have he := Option.some.inj hk
          have h2 := root_lt (k := k) (by have := (List.getElem?_eq_some_iff.1 hd).1; omega) t
          rw [he, lt_irrefl] at h2
          cases h2
      · exact root_lt (by omega) t
    · rw [List.pairwise_iff_getElem]
      intro i j hi hj hij
      rw [List.length_mapIdx] at hi hj
      rw [List.getElem_mapIdx, List.getElem_mapIdx]
      exact dir_lt hij (by omega) _ _
  · rcases first_mem hx with rfl | ⟨k, t, hk, ht, rfl⟩
    · exact absurd rfl hs
    · refine ⟨rootN, List.mem_cons_self, ?_, rfl, rov_bot (hgl k t ht), fun h => by cases h⟩
      have := nmK_names (k := k) (by omega)
      rw [dir_path, show [nmK k] = [] ++ [nmK k] from rfl, parent_path (this.flat _ List.mem_cons_self).1 (this.flat _ List.mem_cons_self).2, pathB_nil]
      rfl
end Go.Proofs.YtacjfbomjglnjaaDoor

/-! A TEXT OF ONE BYTE, OUT OF A ROW THAT WAS JUST MADE. -/
namespace Go.Proofs.YtacjfbomjglnjaaDoor
open Go.RowKit
set_option maxRecDepth 8000
set_option linter.unusedSimpArgs false
set_option linter.unusedVariables false

/-- A row of one byte, kept. -/
structure ChrAt (W : World) (pb k : Nat) : Prop where
  lt : pb < W.heap.size
  cell : W.cell? ⟨pb, 0, none⟩ = some (.int .u8 (k : Int))
  hk : k < 256
theorem ChrAt.below {W W' : World} {pb k : Nat} (h : ChrAt W pb k) (b : Below W.heap.size W W') : ChrAt W' pb k := ⟨Nat.lt_of_lt_of_le h.lt b.size, (b.cell (p := ⟨pb, 0, none⟩) h.lt).trans h.cell, h.hk⟩
theorem chr_made (w : World) (k : Nat) (hk : k < 256) : ChrAt (w.alloc (.cells #[.int .u8 (k : Int)] 5)) w.heap.size k := ⟨by simp, by rw [World.cell?_alloc_at _ _ _ _ rfl]; rfl, hk⟩
theorem chr_made2 (w : World) (q : Nat) (hq : 48 + q < 256) : ChrAt (w.alloc (.cells #[.int .u8 (48 + (q : Int))] 5)) w.heap.size (48 + q) := by
  have := chr_made w (48 + q) hq
  rw [Int.natCast_add] at this
  exact this
theorem ChrAt.conv {W : World} {pb k : Nat} (h : ChrAt W pb k) : (convert 74 9 (.slice (some ⟨pb, 0, none⟩) 1 1)).run Tryd.prog W = .ok (.string (chr k)) W := by
  refine run_convert_bytes_back _ _ _ 5 ⟨pb, 0, none⟩ 1 [UInt8.ofNat k] Tryd.underlying74 Tryd.underlying5 Tryd.underlying9 fun j hj => ?_
  obtain rfl : j = 0 := by simp at hj; omega
  rw [show (⟨pb, 0, none⟩ : Addr).add 0 = ⟨pb, 0, none⟩ by simp [Addr.add], h.cell]
  have := h.hk
  simp
  omega
end Go.Proofs.YtacjfbomjglnjaaDoor

/-! THE FIRST NODES: the document's own First (donjonref11). Written by mk_tfirst.py. -/
namespace Go.Proofs.YtacjfbomjglnjaaDoor
open Go.RowKit
set_option maxRecDepth 8000
set_option linter.unusedSimpArgs false
set_option linter.unusedVariables false

def lrow (l : Lab) : List Value := [.int .i64 l.s, .int .i64 l.c, .int .i64 l.i, .int .i64 l.k]
theorem lab_ok : ElemOk 26 23 4 lrow :=
  ⟨Tryd.underlying23, by
    obtain ⟨i, h1, h2, h3, h4⟩ := info_of (e := 26) (z := .agg #[.int .i64 0, .int .i64 0, .int .i64 0, .int .i64 0]) (sz := 4) (b := 32) (by kernel_rfl)
    exact ⟨i, _, _, h1, h2, h3, h4, rfl, by omega⟩, by omega, fun _ => rfl, fun x u hu => by simp [lrow] at hu; rcases hu with rfl | rfl | rfl | rfl <;> rfl⟩
theorem rlbottom_any (w : World) :
    Calls Tryd.prog 39 #[] w fun e w' => e = .returned bottomL.v ∧ Below w.heap.size w w' := by
  go_enter Tryd.func39, Tryd.ntmps39
  go_wp2
  refine bodyPost_ret (v := bottomL.v) (by simp [results, Tryd.results39, go_sem, bottomL]) rfl ⟨rfl, (Below.refl _ _).alloc (Nat.le_refl _) _⟩
section
variable {ops : Array Oper} {o : Oper} {a : Act} {w : World} {Q : Exit → Act → World → Prop} {S : World → Prop}
/-- A load of one cell, in a region that draws. -/
theorem yields_cell {T : TypeId} (hw : Region.wanted o (yielded ops a.tmps) = true) (x : Operand) (ho : o.op = .load T x) (y : Addr) (hx : a.eval x = .pointer (some y)) (v : Value) (hS : ∀ w, S w → w.cell? y = some v) (hl : ∀ w y v, w.cell? y = some v → (Instr.loadAt T (.pointer (some y))).run Tryd.prog w = .ok v w) : YieldsIf Tryd.prog ops S o v a :=
  .inl ⟨hw, fun w hw' => by
    unfold execOp
    simp only [ho, hx, Sem.run_bind, hl w y v (hS w hw'), Result.andThen_ok]
    rfl⟩
theorem step_conv {t u : TypeId} {K : Act → World → Prop} {E : Prop} {v r : Value} (hg : o.guard = none) (x : Operand) (ho : o.op = .convert t u x) (hx : a.eval x = v) (hr : (convert t u v).run Tryd.prog w = .ok r w) (hK : K (a.put o.dst r) w) :
    if Region.wanted o (yielded ops a.tmps) = true then Oper.wp Tryd.prog o a w K Q else E := by
  have hw : Region.wanted o (yielded ops a.tmps) = true := by simp [Region.wanted, hg]
  rw [if_pos hw]
  unfold Oper.wp execOp
  simp only [ho, hx, Sem.run_bind, hr, Result.andThen_ok]
  exact hK
end
theorem slab_load (w : World) (y : Addr) (v : Value) (h : w.cell? y = some v) : (Instr.loadAt 23 (.pointer (some y))).run Tryd.prog w = .ok v w := by
  simp [go_sem, h]
def firstP (ts : List Lab) (i : Nat) (ag : Option Addr) : List PN := (firstTo ts i).map fun n => ⟨n, ag, 1, none, 0⟩
theorem firstP_len (ts : List Lab) (i : Nat) (ag : Option Addr) : (firstP ts i ag).length = (distTo ts i).length + 1 := by simp [firstP, firstTo]
theorem firstP_names (ts : List Lab) (i : Nat) (ag : Option Addr) : namesP (firstP ts i ag) = firstTo ts i := by
  unfold namesP firstP
  rw [List.map_map]
  exact List.map_id' _
theorem firstP_succ (ts : List Lab) (i : Nat) (ag : Option Addr) : firstP ts (i + 1) ag = if (ts.take i).any (fun t => labEq t (ts.getD i bottomL)) = true then firstP ts i ag else firstP ts i ag ++ [⟨dirN (distTo ts i).length (ts.getD i bottomL), ag, 1, none, 0⟩] := by
  unfold firstP
  rw [first_succ]
  split
  · rfl
  · simp
theorem dist_succ (ts : List Lab) (i : Nat) : (distTo ts (i + 1)).length = if (ts.take i).any (fun t => labEq t (ts.getD i bottomL)) = true then (distTo ts i).length else (distTo ts i).length + 1 := by
  rw [distTo]
  split <;> simp
theorem l_path (q : Nat) : (⟨#[47, 108]⟩ : ByteArray) ++ chr (48 + q) = ⟨#[47, 108, UInt8.ofNat (48 + q)]⟩ := by
  apply bytes_inj
  rw [bytes_append]
  rfl
theorem dir_cs (w : World) (q : Nat) (tt : Lab) : (PN.cs ⟨dirN q tt, some ⟨w.heap.size + 1, 0, none⟩, 1, none, 0⟩) = [.string (⟨#[47, 108]⟩ ++ chr (48 + q)), .bool true, .int .i64 tt.s, .int .i64 tt.c, .int .i64 tt.i, .int .i64 tt.k, .slice (some ⟨w.heap.size + 1, 0, none⟩) 1 1, .int .i64 0, .int .i64 0, .int .i64 0, .int .i64 0, .slice none 0 0, .int .i64 bottomL.s, .int .i64 bottomL.c, .int .i64 bottomL.i, .int .i64 bottomL.k] := by
  rw [l_path]
  rfl
theorem any_take {ts : List Lab} {j : Nat} {t : Lab} (h : ts[j]? = some t) (f : Lab → Bool) : (ts.take (j + 1)).any f = ((ts.take j).any f || f t) := by
  rw [List.take_add_one, h]
  simp
theorem own_one (x : PN) (W : World) {base : Nat} (hb : base ≤ W.heap.size) : OwnN (W.alloc (.cells x.cs.toArray 32)) base (.slice (some ⟨W.heap.size, 0, none⟩) 1 1) [x] := by
  refine ⟨by simp [pn_len], .inr ⟨W.heap.size, 1, x.cs.toArray, rfl, hb, heap_alloc_new W _, Nat.le_refl _, by simp only [maxLen]; omega, by simp [pn_len], ?_⟩⟩
  simp
  exact List.take_of_length_le (by rw [pn_len]; omega)
/-- Where First stands: the config's box, the list for all. -/
structure FsZ (w W : World) (ta : Option Addr) (n ct : Nat) : Prop where
  box : W.cell? ⟨w.heap.size, 0, none⟩ = some (.slice ta n ct)
  all : GrsAt W (some ⟨w.heap.size + 1, 0, none⟩) allG
  bl : Below w.heap.size w W
  sz : w.heap.size + 2 ≤ W.heap.size
section
variable {w W W' : World} {ta : Option Addr} {n ct : Nat}
theorem FsZ.grown (h : FsZ w W ta n ct) (b : Below (w.heap.size + 2) W W') : FsZ w W' ta n ct := by
  refine ⟨(b.cell (p := ⟨w.heap.size, 0, none⟩) (by show w.heap.size < w.heap.size + 2; omega)).trans h.box, fun j q hq => ?_, h.bl.trans (b.mono (by omega)), Nat.le_trans h.sz b.size⟩
  obtain ⟨y, hy, h1, h2⟩ := h.all j q hq
  obtain rfl := Option.some.inj hy
  have hb : ((⟨w.heap.size + 1, 0, none⟩ : Addr).add (j * 2)).block < w.heap.size + 2 := by rw [add_at]; show w.heap.size + 1 < _; omega
  exact ⟨_, rfl, (b.cell hb).trans h1, (b.cell (p := ⟨_, _, none⟩) hb).trans h2⟩
theorem FsZ.then (h : FsZ w W ta n ct) (b : Below W.heap.size W W') : FsZ w W' ta n ct := h.grown (b.mono h.sz)
theorem FsZ.lab {y : Addr} {ts : List Lab} (h : FsZ w W (some y) n ct) (hl : RowAt 4 lrow w (some y) ts) {j : Nat} {t : Lab} (ht : ts[j]? = some t) : CellsAt W (y.add (j * 4)) [.int .i64 t.s, .int .i64 t.c, .int .i64 t.i, .int .i64 t.k] := (hl.below lab_ok.len h.bl).at lab_ok.len ht
end
set_option maxRecDepth 20000 in
set_option maxHeartbeats 8000000 in
theorem rfirstT_any (ta : Option Addr) (ct : Nat) (ts : List Lab) (ua ra : Option Addr) (nu cu nr cr : Nat) (hn9 : ts.length ≤ 9) (w : World) (hl : RowAt 4 lrow w ta ts) :
    Calls Tryd.prog 27 #[.agg #[.slice ta ts.length ct, .slice ua nu cu, .slice ra nr cr]] w fun e w' => ∃ v, e = .returned v ∧ OwnN w' w.heap.size v (firstP ts ts.length (some ⟨w.heap.size + 1, 0, none⟩)) ∧ GrsAt w' (some ⟨w.heap.size + 1, 0, none⟩) allG ∧ Below w.heap.size w w' := by
  have hsl : (Tryd.prog.info? 26).map (·.size) = some 4 := by kernel_rfl
  have heq := run_eql_lab
  obtain ⟨n, hn⟩ : ∃ n, ts.length = n := ⟨_, rfl⟩
  rw [hn] at hn9 ⊢
  replace hn : Aside (ts.length = n) := hn
  have hdl := dist_len ts
  have h0 : FsZ w ((w.alloc (.cells #[.slice ta n ct, .slice ua nu cu, .slice ra nr cr] 58)).alloc (.cells #[.string ⟨#[42]⟩, .int .i64 7] 77)) ta n ct := by
    have b1 := alloc_below w (.cells #[.slice ta n ct, .slice ua nu cu, .slice ra nr cr] 58)
    have m1 := blk_alloc w #[.slice ta n ct, .slice ua nu cu, .slice ra nr cr] 58
    have s1 := World.size_alloc w (.cells #[.slice ta n ct, .slice ua nu cu, .slice ra nr cr] 58)
    generalize w.alloc (.cells #[.slice ta n ct, .slice ua nu cu, .slice ra nr cr] 58) = W1 at *
    have b2 := alloc_below W1 (.cells #[.string ⟨#[42]⟩, .int .i64 7] 77)
    have m2 := blk_alloc W1 #[.string ⟨#[42]⟩, .int .i64 7] 77
    have s2 := World.size_alloc W1 (.cells #[.string ⟨#[42]⟩, .int .i64 7] 77)
    rw [s1] at m2
    refine ⟨((m1.same (b2.block _ (by omega))) 0 _ rfl).1, fun j q hq => ?_, Below.then b1 b2, by omega⟩
    have hj : j = 0 := by have := (List.getElem?_eq_some_iff.1 hq).1; simp [allG] at this; omega
    subst hj
    obtain rfl : (⟨starS, 7⟩ : Gr) = q := by simpa [allG] using hq
    exact ⟨_, rfl, (m2 0 _ rfl).1, (m2 1 _ rfl).1⟩
  go_enter Tryd.func27, Tryd.ntmps27
  go_wp2_with fail
  generalize (w.alloc (.cells #[.slice ta n ct, .slice ua nu cu, .slice ra nr cr] 58)).alloc (.cells #[.string ⟨#[42]⟩, .int .i64 7] 77) = W0 at *
  refine (rlbottom_any W0).mono ?_
  rintro e W1 ⟨rfl, hB1⟩
  have h1 := h0.then hB1
  go_wp2_with fail
  refine (rlbottom_any W1).mono ?_
  rintro e W2 ⟨rfl, hB2⟩
  have h2 := h1.then hB2
  have hrt : OwnN (W2.alloc (.cells [.string ⟨#[47]⟩, .bool true, .int .i64 bottomL.s, .int .i64 bottomL.c, .int .i64 bottomL.i, .int .i64 bottomL.k, .slice (some ⟨w.heap.size + 1, 0, none⟩) 1 1, .int .i64 0, .int .i64 0, .int .i64 0, .int .i64 0, .slice none 0 0, .int .i64 bottomL.s, .int .i64 bottomL.c, .int .i64 bottomL.i, .int .i64 bottomL.k].toArray 32)) (w.heap.size + 2) (.slice (some ⟨W2.heap.size, 0, none⟩) 1 1) (firstP ts 0 (some ⟨w.heap.size + 1, 0, none⟩)) := own_one (⟨rootN, some ⟨w.heap.size + 1, 0, none⟩, 1, none, 0⟩ : PN) W2 h2.sz
  have h3 := h2.then (alloc_below W2 (.cells [.string ⟨#[47]⟩, .bool true, .int .i64 bottomL.s, .int .i64 bottomL.c, .int .i64 bottomL.i, .int .i64 bottomL.k, .slice (some ⟨w.heap.size + 1, 0, none⟩) 1 1, .int .i64 0, .int .i64 0, .int .i64 0, .int .i64 0, .slice none 0 0, .int .i64 bottomL.s, .int .i64 bottomL.c, .int .i64 bottomL.i, .int .i64 bottomL.k].toArray 32))
  clear h0 h1 h2 hB1 hB2
  go_wp2_with (first | (refine wpList_build1 pn_ok (by decide) rfl _ rfl [.string ⟨#[47]⟩, .bool true, .int .i64 bottomL.s, .int .i64 bottomL.c, .int .i64 bottomL.i, .int .i64 bottomL.k, .slice (some ⟨w.heap.size + 1, 0, none⟩) 1 1, .int .i64 0, .int .i64 0, .int .i64 0, .int .i64 0, .slice none 0 0, .int .i64 bottomL.s, .int .i64 bottomL.c, .int .i64 bottomL.i, .int .i64 bottomL.k] rfl rfl ?_) | fail)
  generalize W2.alloc (.cells [.string ⟨#[47]⟩, .bool true, .int .i64 bottomL.s, .int .i64 bottomL.c, .int .i64 bottomL.i, .int .i64 bottomL.k, .slice (some ⟨w.heap.size + 1, 0, none⟩) 1 1, .int .i64 0, .int .i64 0, .int .i64 0, .int .i64 0, .slice none 0 0, .int .i64 bottomL.s, .int .i64 bottomL.c, .int .i64 bottomL.i, .int .i64 bottomL.k].toArray 32) = W3 at *
  generalize W2.heap.size = rb at *
  go_loopw [4, 5, 6] (fun t4 t5 t6 wr => ∃ i : Nat, i ≤ n ∧ t6 = .int .i64 (i : Int) ∧ ∃ q : Nat, t5 = .int .i64 (q : Int) ∧ Aside (q = (distTo ts i).length) ∧ FsZ w wr ta n ct ∧ OwnN wr (w.heap.size + 2) t4 (firstP ts i (some ⟨w.heap.size + 1, 0, none⟩))) (fun _ _ t6 _ => n - (Go.RowKit.intOf t6).toNat)
  case atStart => exact ⟨0, by omega, rfl, 0, rfl, rfl, h3, hrt⟩
  case round =>
    clear h3 hrt
    obtain ⟨i, hi, rfl, q, rfl, hq, hS, ho⟩ := hrel
    have hbx := hS.box
    have hq9 : q ≤ 9 := by rw [hq.out]; have := hdl i; omega
    by_cases hlt : i < n
    · obtain ⟨tt, hti⟩ : ∃ tt, ts[i]? = some tt := ⟨_, List.getElem?_eq_getElem (by rw [hn.out]; exact hlt)⟩
      have hgd : ts.getD i bottomL = tt := by rw [List.getD_eq_getElem?_getD, hti]; rfl
      obtain ⟨y, rfl, -⟩ := hl i tt hti
      have hfs := firstP_succ ts i (some ⟨w.heap.size + 1, 0, none⟩)
      have hds := dist_succ ts i
      rw [hgd] at hfs hds
      replace hfs : Aside _ := hfs
      replace hds : Aside _ := hds
      clear hgd
      go_wp2_with fail
      clear hbx
      go_loopw [7, 8] (fun t7 t8 wq => ∃ j : Nat, j ≤ i ∧ t8 = .int .i64 (j : Int) ∧ t7 = .bool ((ts.take j).any (fun t => labEq t tt)) ∧ FsZ w wq (some y) n ct ∧ Below wr.heap.size wr wq) (fun _ t8 _ => i - (Go.RowKit.intOf t8).toNat)
      case atStart => exact ⟨0, by omega, rfl, rfl, hS, Below.refl _ _⟩
      case round =>
        obtain ⟨j, hj, rfl, rfl, hS2, hB⟩ := hrel
        have ho2 := ho.below hB
        by_cases hlt2 : j < i
        · obtain ⟨tj, htj⟩ : ∃ tj, ts[j]? = some tj := ⟨_, List.getElem?_eq_getElem (by rw [hn.out]; omega)⟩
          have hat := any_take htj (fun t => labEq t tt)
          have hS0 : FsZ w wr.drew (some y) n ct := hS2.then (Below.refl _ _).drew
          have hBd := hB.drew
          have i1 : (j : Int) < (i : Int) := by omega
          have i2 : (j : Int) < (n : Int) := by omega
          have i3 : (i : Int) < (n : Int) := by omega
          cases hb : (ts.take j).any (fun t => labEq t tt)
          · rw [hb, Bool.false_or] at hat
            clear hS ho ho2
            go_wp2_with fail
            refine wp_region_held_drew (S := (fun W => FsZ w W (some y) n ct)) (by kernel_rfl) (by exact hS0) ?_
            intro hHeld
            (first | (refine wpAnyH_take (i := 0) (v := ?_) (by simp only [gA, gB, gC]; rfl) (by kernel_rfl) (by kernel_rfl) (by kernel_rfl) (by exact fun _ _ _ h => h) (Or.inl ⟨by rfl, ?_⟩) (by assumption) ?_; rotate_left; (focus (intro w hSw; (try dsimp only at hSw); go_simp; try with_reducible rfl))) | (refine wpAnyH_take (i := 0) (v := undef) (by simp only [gA, gB, gC]; rfl) (by kernel_rfl) (by kernel_rfl) (by kernel_rfl) (by exact fun _ _ _ h => h) (Or.inr ⟨by rfl, rfl⟩) (by assumption) ?_) | fail); simp only [Act.put, sA, sB, sC, Bool.not_true, Bool.not_false]
            (first | (refine wpAnyH_take (i := 1) (v := ?_) (by simp only [gA, gB, gC]; rfl) (by kernel_rfl) (by kernel_rfl) (by kernel_rfl) (by exact fun _ _ _ h => h) (Or.inl ⟨by rfl, ?_⟩) (by assumption) ?_; rotate_left; (focus (intro w hSw; (try dsimp only at hSw); go_simp; try with_reducible rfl))) | (refine wpAnyH_take (i := 1) (v := undef) (by simp only [gA, gB, gC]; rfl) (by kernel_rfl) (by kernel_rfl) (by kernel_rfl) (by exact fun _ _ _ h => h) (Or.inr ⟨by rfl, rfl⟩) (by assumption) ?_) | fail); simp only [Act.put, sA, sB, sC, Bool.not_true, Bool.not_false]
            (first | (refine wpAnyH_take (i := 2) (v := ?_) (by simp only [gA, gB, gC]; rfl) (by kernel_rfl) (by kernel_rfl) (by kernel_rfl) (by exact fun _ _ _ h => h) (Or.inl ⟨by rfl, ?_⟩) (by assumption) ?_; rotate_left; (focus (intro w hSw; (try dsimp only at hSw); go_simp; try with_reducible rfl))) | (refine wpAnyH_take (i := 2) (v := undef) (by simp only [gA, gB, gC]; rfl) (by kernel_rfl) (by kernel_rfl) (by kernel_rfl) (by exact fun _ _ _ h => h) (Or.inr ⟨by rfl, rfl⟩) (by assumption) ?_) | fail); simp only [Act.put, sA, sB, sC, Bool.not_true, Bool.not_false]
            (first | (refine wpAnyH_take (i := 3) (v := _) (by simp only [gA, gB, gC]; rfl) (by kernel_rfl) (by kernel_rfl) (by kernel_rfl) (by exact fun _ _ _ h => h) (yields_cell (by rfl) _ rfl ⟨w.heap.size, 0, none⟩ rfl (.slice (some y) n ct) (fun _ q => q.box) slab_load) (by assumption) ?_) | (refine wpAnyH_take (i := 3) (v := undef) (by simp only [gA, gB, gC]; rfl) (by kernel_rfl) (by kernel_rfl) (by kernel_rfl) (by exact fun _ _ _ h => h) (Or.inr ⟨by rfl, rfl⟩) (by assumption) ?_) | fail); simp only [Act.put, sA, sB, sC, Bool.not_true, Bool.not_false]
            (first | (refine wpAnyH_take (i := 4) (v := ?_) (by simp only [gA, gB, gC]; rfl) (by kernel_rfl) (by kernel_rfl) (by kernel_rfl) (by exact fun _ _ _ h => h) (Or.inl ⟨by rfl, ?_⟩) (by assumption) ?_; rotate_left; (focus (intro w hSw; (try dsimp only at hSw); go_simp; try with_reducible rfl))) | (refine wpAnyH_take (i := 4) (v := undef) (by simp only [gA, gB, gC]; rfl) (by kernel_rfl) (by kernel_rfl) (by kernel_rfl) (by exact fun _ _ _ h => h) (Or.inr ⟨by rfl, rfl⟩) (by assumption) ?_) | fail); simp only [Act.put, sA, sB, sC, Bool.not_true, Bool.not_false]
            (first | (refine wpAnyH_take (i := 5) (v := ?_) (by simp only [gA, gB, gC]; rfl) (by kernel_rfl) (by kernel_rfl) (by kernel_rfl) (by exact fun _ _ _ h => h) (Or.inl ⟨by rfl, ?_⟩) (by assumption) ?_; rotate_left; (focus (intro w hSw; (try dsimp only at hSw); go_simp; try with_reducible rfl))) | (refine wpAnyH_take (i := 5) (v := undef) (by simp only [gA, gB, gC]; rfl) (by kernel_rfl) (by kernel_rfl) (by kernel_rfl) (by exact fun _ _ _ h => h) (Or.inr ⟨by rfl, rfl⟩) (by assumption) ?_) | fail); simp only [Act.put, sA, sB, sC, Bool.not_true, Bool.not_false]
            (first | (refine wpAnyH_take (i := 6) (v := _) (by simp only [gA, gB, gC]; rfl) (by kernel_rfl) (by kernel_rfl) (by kernel_rfl) (by exact fun _ _ _ h => h) (yields_at (by rfl) _ rfl _ rfl [.int .i64 tj.s, .int .i64 tj.c, .int .i64 tj.i, .int .i64 tj.k] (fun _ q => q.lab hl htj) Tryd.underlying26 rfl hsl) (by assumption) ?_) | (refine wpAnyH_take (i := 6) (v := undef) (by simp only [gA, gB, gC]; rfl) (by kernel_rfl) (by kernel_rfl) (by kernel_rfl) (by exact fun _ _ _ h => h) (Or.inr ⟨by rfl, rfl⟩) (by assumption) ?_) | fail); simp only [Act.put, sA, sB, sC, Bool.not_true, Bool.not_false]
            (first | (refine wpAnyH_take (i := 7) (v := ?_) (by simp only [gA, gB, gC]; rfl) (by kernel_rfl) (by kernel_rfl) (by kernel_rfl) (by exact fun _ _ _ h => h) (Or.inl ⟨by rfl, ?_⟩) (by assumption) ?_; rotate_left; (focus (intro w hSw; (try dsimp only at hSw); go_simp; try with_reducible rfl))) | (refine wpAnyH_take (i := 7) (v := undef) (by simp only [gA, gB, gC]; rfl) (by kernel_rfl) (by kernel_rfl) (by kernel_rfl) (by exact fun _ _ _ h => h) (Or.inr ⟨by rfl, rfl⟩) (by assumption) ?_) | fail); simp only [Act.put, sA, sB, sC, Bool.not_true, Bool.not_false]
            (first | (refine wpAnyH_take (i := 8) (v := _) (by simp only [gA, gB, gC]; rfl) (by kernel_rfl) (by kernel_rfl) (by kernel_rfl) (by exact fun _ _ _ h => h) (yields_cell (by rfl) _ rfl ⟨w.heap.size, 0, none⟩ rfl (.slice (some y) n ct) (fun _ q => q.box) slab_load) (by assumption) ?_) | (refine wpAnyH_take (i := 8) (v := undef) (by simp only [gA, gB, gC]; rfl) (by kernel_rfl) (by kernel_rfl) (by kernel_rfl) (by exact fun _ _ _ h => h) (Or.inr ⟨by rfl, rfl⟩) (by assumption) ?_) | fail); simp only [Act.put, sA, sB, sC, Bool.not_true, Bool.not_false]
            (first | (refine wpAnyH_take (i := 9) (v := ?_) (by simp only [gA, gB, gC]; rfl) (by kernel_rfl) (by kernel_rfl) (by kernel_rfl) (by exact fun _ _ _ h => h) (Or.inl ⟨by rfl, ?_⟩) (by assumption) ?_; rotate_left; (focus (intro w hSw; (try dsimp only at hSw); go_simp; try with_reducible rfl))) | (refine wpAnyH_take (i := 9) (v := undef) (by simp only [gA, gB, gC]; rfl) (by kernel_rfl) (by kernel_rfl) (by kernel_rfl) (by exact fun _ _ _ h => h) (Or.inr ⟨by rfl, rfl⟩) (by assumption) ?_) | fail); simp only [Act.put, sA, sB, sC, Bool.not_true, Bool.not_false]
            (first | (refine wpAnyH_take (i := 10) (v := ?_) (by simp only [gA, gB, gC]; rfl) (by kernel_rfl) (by kernel_rfl) (by kernel_rfl) (by exact fun _ _ _ h => h) (Or.inl ⟨by rfl, ?_⟩) (by assumption) ?_; rotate_left; (focus (intro w hSw; (try dsimp only at hSw); go_simp; try with_reducible rfl))) | (refine wpAnyH_take (i := 10) (v := undef) (by simp only [gA, gB, gC]; rfl) (by kernel_rfl) (by kernel_rfl) (by kernel_rfl) (by exact fun _ _ _ h => h) (Or.inr ⟨by rfl, rfl⟩) (by assumption) ?_) | fail); simp only [Act.put, sA, sB, sC, Bool.not_true, Bool.not_false]
            (first | (refine wpAnyH_take (i := 11) (v := _) (by simp only [gA, gB, gC]; rfl) (by kernel_rfl) (by kernel_rfl) (by kernel_rfl) (by exact fun _ _ _ h => h) (yields_at (by rfl) _ rfl _ rfl [.int .i64 tt.s, .int .i64 tt.c, .int .i64 tt.i, .int .i64 tt.k] (fun _ q => q.lab hl hti) Tryd.underlying26 rfl hsl) (by assumption) ?_) | (refine wpAnyH_take (i := 11) (v := undef) (by simp only [gA, gB, gC]; rfl) (by kernel_rfl) (by kernel_rfl) (by kernel_rfl) (by exact fun _ _ _ h => h) (Or.inr ⟨by rfl, rfl⟩) (by assumption) ?_) | fail); simp only [Act.put, sA, sB, sC, Bool.not_true, Bool.not_false]
            (first | (refine wpAnyH_take (i := 12) (v := ?_) (by simp only [gA, gB, gC]; rfl) (by kernel_rfl) (by kernel_rfl) (by kernel_rfl) (by exact fun _ _ _ h => h) (Or.inl ⟨by rfl, ?_⟩) (by assumption) ?_; rotate_left; (focus (intro w hSw; (try dsimp only at hSw); go_simp; try with_reducible rfl))) | (refine wpAnyH_take (i := 12) (v := undef) (by simp only [gA, gB, gC]; rfl) (by kernel_rfl) (by kernel_rfl) (by kernel_rfl) (by exact fun _ _ _ h => h) (Or.inr ⟨by rfl, rfl⟩) (by assumption) ?_) | fail); simp only [Act.put, sA, sB, sC, Bool.not_true, Bool.not_false]
            (first | (refine wpAnyH_take (i := 13) (v := ?_) (by simp only [gA, gB, gC]; rfl) (by kernel_rfl) (by kernel_rfl) (by kernel_rfl) (by exact fun _ _ _ h => h) (Or.inl ⟨by rfl, ?_⟩) (by assumption) ?_; rotate_left; (focus (intro w hSw; (try dsimp only at hSw); go_simp; try with_reducible rfl))) | (refine wpAnyH_take (i := 13) (v := undef) (by simp only [gA, gB, gC]; rfl) (by kernel_rfl) (by kernel_rfl) (by kernel_rfl) (by exact fun _ _ _ h => h) (Or.inr ⟨by rfl, rfl⟩) (by assumption) ?_) | fail); simp only [Act.put, sA, sB, sC, Bool.not_true, Bool.not_false]
            (first | (refine wpAnyH_take (i := 14) (v := ?_) (by simp only [gA, gB, gC]; rfl) (by kernel_rfl) (by kernel_rfl) (by kernel_rfl) (by exact fun _ _ _ h => h) (Or.inl ⟨by rfl, ?_⟩) (by assumption) ?_; rotate_left; (focus (intro w hSw; (try dsimp only at hSw); go_simp; try with_reducible rfl))) | (refine wpAnyH_take (i := 14) (v := undef) (by simp only [gA, gB, gC]; rfl) (by kernel_rfl) (by kernel_rfl) (by kernel_rfl) (by exact fun _ _ _ h => h) (Or.inr ⟨by rfl, rfl⟩) (by assumption) ?_) | fail); simp only [Act.put, sA, sB, sC, Bool.not_true, Bool.not_false]
            refine wpAnyH_done (by kernel_rfl) ?_ _
            go_wp2_with fail
            exact ⟨⟨j + 1, by omega, by simp, by rw [hat], hS0, hBd⟩, by simp [Go.RowKit.intOf]; omega⟩
          · rw [hb, Bool.true_or] at hat
            clear hS ho ho2
            go_wp2_with fail
            refine wp_region_held_drew (S := (fun W => FsZ w W (some y) n ct)) (by kernel_rfl) (by exact hS0) ?_
            intro hHeld
            (first | (refine wpAnyH_take (i := 0) (v := ?_) (by simp only [gA, gB, gC]; rfl) (by kernel_rfl) (by kernel_rfl) (by kernel_rfl) (by exact fun _ _ _ h => h) (Or.inl ⟨by rfl, ?_⟩) (by assumption) ?_; rotate_left; (focus (intro w hSw; (try dsimp only at hSw); go_simp; try with_reducible rfl))) | (refine wpAnyH_take (i := 0) (v := undef) (by simp only [gA, gB, gC]; rfl) (by kernel_rfl) (by kernel_rfl) (by kernel_rfl) (by exact fun _ _ _ h => h) (Or.inr ⟨by rfl, rfl⟩) (by assumption) ?_) | fail); simp only [Act.put, sA, sB, sC, Bool.not_true, Bool.not_false]
            (first | (refine wpAnyH_take (i := 1) (v := ?_) (by simp only [gA, gB, gC]; rfl) (by kernel_rfl) (by kernel_rfl) (by kernel_rfl) (by exact fun _ _ _ h => h) (Or.inl ⟨by rfl, ?_⟩) (by assumption) ?_; rotate_left; (focus (intro w hSw; (try dsimp only at hSw); go_simp; try with_reducible rfl))) | (refine wpAnyH_take (i := 1) (v := undef) (by simp only [gA, gB, gC]; rfl) (by kernel_rfl) (by kernel_rfl) (by kernel_rfl) (by exact fun _ _ _ h => h) (Or.inr ⟨by rfl, rfl⟩) (by assumption) ?_) | fail); simp only [Act.put, sA, sB, sC, Bool.not_true, Bool.not_false]
            (first | (refine wpAnyH_take (i := 2) (v := ?_) (by simp only [gA, gB, gC]; rfl) (by kernel_rfl) (by kernel_rfl) (by kernel_rfl) (by exact fun _ _ _ h => h) (Or.inl ⟨by rfl, ?_⟩) (by assumption) ?_; rotate_left; (focus (intro w hSw; (try dsimp only at hSw); go_simp; try with_reducible rfl))) | (refine wpAnyH_take (i := 2) (v := undef) (by simp only [gA, gB, gC]; rfl) (by kernel_rfl) (by kernel_rfl) (by kernel_rfl) (by exact fun _ _ _ h => h) (Or.inr ⟨by rfl, rfl⟩) (by assumption) ?_) | fail); simp only [Act.put, sA, sB, sC, Bool.not_true, Bool.not_false]
            (first | (refine wpAnyH_take (i := 3) (v := _) (by simp only [gA, gB, gC]; rfl) (by kernel_rfl) (by kernel_rfl) (by kernel_rfl) (by exact fun _ _ _ h => h) (yields_cell (by rfl) _ rfl ⟨w.heap.size, 0, none⟩ rfl (.slice (some y) n ct) (fun _ q => q.box) slab_load) (by assumption) ?_) | (refine wpAnyH_take (i := 3) (v := undef) (by simp only [gA, gB, gC]; rfl) (by kernel_rfl) (by kernel_rfl) (by kernel_rfl) (by exact fun _ _ _ h => h) (Or.inr ⟨by rfl, rfl⟩) (by assumption) ?_) | fail); simp only [Act.put, sA, sB, sC, Bool.not_true, Bool.not_false]
            (first | (refine wpAnyH_take (i := 4) (v := ?_) (by simp only [gA, gB, gC]; rfl) (by kernel_rfl) (by kernel_rfl) (by kernel_rfl) (by exact fun _ _ _ h => h) (Or.inl ⟨by rfl, ?_⟩) (by assumption) ?_; rotate_left; (focus (intro w hSw; (try dsimp only at hSw); go_simp; try with_reducible rfl))) | (refine wpAnyH_take (i := 4) (v := undef) (by simp only [gA, gB, gC]; rfl) (by kernel_rfl) (by kernel_rfl) (by kernel_rfl) (by exact fun _ _ _ h => h) (Or.inr ⟨by rfl, rfl⟩) (by assumption) ?_) | fail); simp only [Act.put, sA, sB, sC, Bool.not_true, Bool.not_false]
            (first | (refine wpAnyH_take (i := 5) (v := ?_) (by simp only [gA, gB, gC]; rfl) (by kernel_rfl) (by kernel_rfl) (by kernel_rfl) (by exact fun _ _ _ h => h) (Or.inl ⟨by rfl, ?_⟩) (by assumption) ?_; rotate_left; (focus (intro w hSw; (try dsimp only at hSw); go_simp; try with_reducible rfl))) | (refine wpAnyH_take (i := 5) (v := undef) (by simp only [gA, gB, gC]; rfl) (by kernel_rfl) (by kernel_rfl) (by kernel_rfl) (by exact fun _ _ _ h => h) (Or.inr ⟨by rfl, rfl⟩) (by assumption) ?_) | fail); simp only [Act.put, sA, sB, sC, Bool.not_true, Bool.not_false]
            (first | (refine wpAnyH_take (i := 6) (v := _) (by simp only [gA, gB, gC]; rfl) (by kernel_rfl) (by kernel_rfl) (by kernel_rfl) (by exact fun _ _ _ h => h) (yields_at (by rfl) _ rfl _ rfl [.int .i64 tj.s, .int .i64 tj.c, .int .i64 tj.i, .int .i64 tj.k] (fun _ q => q.lab hl htj) Tryd.underlying26 rfl hsl) (by assumption) ?_) | (refine wpAnyH_take (i := 6) (v := undef) (by simp only [gA, gB, gC]; rfl) (by kernel_rfl) (by kernel_rfl) (by kernel_rfl) (by exact fun _ _ _ h => h) (Or.inr ⟨by rfl, rfl⟩) (by assumption) ?_) | fail); simp only [Act.put, sA, sB, sC, Bool.not_true, Bool.not_false]
            (first | (refine wpAnyH_take (i := 7) (v := ?_) (by simp only [gA, gB, gC]; rfl) (by kernel_rfl) (by kernel_rfl) (by kernel_rfl) (by exact fun _ _ _ h => h) (Or.inl ⟨by rfl, ?_⟩) (by assumption) ?_; rotate_left; (focus (intro w hSw; (try dsimp only at hSw); go_simp; try with_reducible rfl))) | (refine wpAnyH_take (i := 7) (v := undef) (by simp only [gA, gB, gC]; rfl) (by kernel_rfl) (by kernel_rfl) (by kernel_rfl) (by exact fun _ _ _ h => h) (Or.inr ⟨by rfl, rfl⟩) (by assumption) ?_) | fail); simp only [Act.put, sA, sB, sC, Bool.not_true, Bool.not_false]
            (first | (refine wpAnyH_take (i := 8) (v := _) (by simp only [gA, gB, gC]; rfl) (by kernel_rfl) (by kernel_rfl) (by kernel_rfl) (by exact fun _ _ _ h => h) (yields_cell (by rfl) _ rfl ⟨w.heap.size, 0, none⟩ rfl (.slice (some y) n ct) (fun _ q => q.box) slab_load) (by assumption) ?_) | (refine wpAnyH_take (i := 8) (v := undef) (by simp only [gA, gB, gC]; rfl) (by kernel_rfl) (by kernel_rfl) (by kernel_rfl) (by exact fun _ _ _ h => h) (Or.inr ⟨by rfl, rfl⟩) (by assumption) ?_) | fail); simp only [Act.put, sA, sB, sC, Bool.not_true, Bool.not_false]
            (first | (refine wpAnyH_take (i := 9) (v := ?_) (by simp only [gA, gB, gC]; rfl) (by kernel_rfl) (by kernel_rfl) (by kernel_rfl) (by exact fun _ _ _ h => h) (Or.inl ⟨by rfl, ?_⟩) (by assumption) ?_; rotate_left; (focus (intro w hSw; (try dsimp only at hSw); go_simp; try with_reducible rfl))) | (refine wpAnyH_take (i := 9) (v := undef) (by simp only [gA, gB, gC]; rfl) (by kernel_rfl) (by kernel_rfl) (by kernel_rfl) (by exact fun _ _ _ h => h) (Or.inr ⟨by rfl, rfl⟩) (by assumption) ?_) | fail); simp only [Act.put, sA, sB, sC, Bool.not_true, Bool.not_false]
            (first | (refine wpAnyH_take (i := 10) (v := ?_) (by simp only [gA, gB, gC]; rfl) (by kernel_rfl) (by kernel_rfl) (by kernel_rfl) (by exact fun _ _ _ h => h) (Or.inl ⟨by rfl, ?_⟩) (by assumption) ?_; rotate_left; (focus (intro w hSw; (try dsimp only at hSw); go_simp; try with_reducible rfl))) | (refine wpAnyH_take (i := 10) (v := undef) (by simp only [gA, gB, gC]; rfl) (by kernel_rfl) (by kernel_rfl) (by kernel_rfl) (by exact fun _ _ _ h => h) (Or.inr ⟨by rfl, rfl⟩) (by assumption) ?_) | fail); simp only [Act.put, sA, sB, sC, Bool.not_true, Bool.not_false]
            (first | (refine wpAnyH_take (i := 11) (v := _) (by simp only [gA, gB, gC]; rfl) (by kernel_rfl) (by kernel_rfl) (by kernel_rfl) (by exact fun _ _ _ h => h) (yields_at (by rfl) _ rfl _ rfl [.int .i64 tt.s, .int .i64 tt.c, .int .i64 tt.i, .int .i64 tt.k] (fun _ q => q.lab hl hti) Tryd.underlying26 rfl hsl) (by assumption) ?_) | (refine wpAnyH_take (i := 11) (v := undef) (by simp only [gA, gB, gC]; rfl) (by kernel_rfl) (by kernel_rfl) (by kernel_rfl) (by exact fun _ _ _ h => h) (Or.inr ⟨by rfl, rfl⟩) (by assumption) ?_) | fail); simp only [Act.put, sA, sB, sC, Bool.not_true, Bool.not_false]
            (first | (refine wpAnyH_take (i := 12) (v := ?_) (by simp only [gA, gB, gC]; rfl) (by kernel_rfl) (by kernel_rfl) (by kernel_rfl) (by exact fun _ _ _ h => h) (Or.inl ⟨by rfl, ?_⟩) (by assumption) ?_; rotate_left; (focus (intro w hSw; (try dsimp only at hSw); go_simp; try with_reducible rfl))) | (refine wpAnyH_take (i := 12) (v := undef) (by simp only [gA, gB, gC]; rfl) (by kernel_rfl) (by kernel_rfl) (by kernel_rfl) (by exact fun _ _ _ h => h) (Or.inr ⟨by rfl, rfl⟩) (by assumption) ?_) | fail); simp only [Act.put, sA, sB, sC, Bool.not_true, Bool.not_false]
            (first | (refine wpAnyH_take (i := 13) (v := ?_) (by simp only [gA, gB, gC]; rfl) (by kernel_rfl) (by kernel_rfl) (by kernel_rfl) (by exact fun _ _ _ h => h) (Or.inl ⟨by rfl, ?_⟩) (by assumption) ?_; rotate_left; (focus (intro w hSw; (try dsimp only at hSw); go_simp; try with_reducible rfl))) | (refine wpAnyH_take (i := 13) (v := undef) (by simp only [gA, gB, gC]; rfl) (by kernel_rfl) (by kernel_rfl) (by kernel_rfl) (by exact fun _ _ _ h => h) (Or.inr ⟨by rfl, rfl⟩) (by assumption) ?_) | fail); simp only [Act.put, sA, sB, sC, Bool.not_true, Bool.not_false]
            (first | (refine wpAnyH_take (i := 14) (v := ?_) (by simp only [gA, gB, gC]; rfl) (by kernel_rfl) (by kernel_rfl) (by kernel_rfl) (by exact fun _ _ _ h => h) (Or.inl ⟨by rfl, ?_⟩) (by assumption) ?_; rotate_left; (focus (intro w hSw; (try dsimp only at hSw); go_simp; try with_reducible rfl))) | (refine wpAnyH_take (i := 14) (v := undef) (by simp only [gA, gB, gC]; rfl) (by kernel_rfl) (by kernel_rfl) (by kernel_rfl) (by exact fun _ _ _ h => h) (Or.inr ⟨by rfl, rfl⟩) (by assumption) ?_) | fail); simp only [Act.put, sA, sB, sC, Bool.not_true, Bool.not_false]
            refine wpAnyH_done (by kernel_rfl) ?_ _
            go_wp2_with fail
            exact ⟨⟨j + 1, by omega, by simp, by rw [hat], hS0, hBd⟩, by simp [Go.RowKit.intOf]; omega⟩
        · obtain rfl : j = i := by omega
          cases hb : (ts.take j).any (fun t => labEq t tt)
          · replace hfs := hfs.out
            replace hds := hds.out
            rw [hb, if_neg (by decide)] at hfs hds
            rw [← hq.out] at hfs hds
            have hqn : Aside (q + 1 = (distTo ts (j + 1)).length) := hds.symm
            replace hfs : Aside _ := hfs
            clear hds hS ho hB
            have hS0 : FsZ w wr.drew (some y) n ct := hS2.then (Below.refl _ _).drew
            have ho0 : OwnN wr.drew (w.heap.size + 2) u4 (firstP ts j (some ⟨w.heap.size + 1, 0, none⟩)) := ho2
            have hwq : IntKind.i64.wrap (48 + (q : Int)) = ((48 + q : Nat) : Int) := by rw [IntKind.wrap_i64]; omega
            have hc2 : ¬ 9223372036854775807 < 2 + (chr (48 + q)).size := by show ¬ 9223372036854775807 < 2 + 1; decide
            have hwu2 : IntKind.u8.wrap (48 + (q : Int)) = ((48 + q : Nat) : Int) := by rw [IntKind.wrap_u8]; omega
            have hwu : IntKind.u8.wrap ((48 + q : Nat) : Int) = ((48 + q : Nat) : Int) := by rw [IntKind.wrap_u8]; omega
            clear hS2 ho2
            go_wp2_with fail
            refine wp_region_held_drew (S := (fun W => FsZ w W (some y) n ct)) (by kernel_rfl) (by exact hS0) ?_
            intro hHeld
            generalize wr.drew = w0 at *
            refine wpAnyH_take (i := 0) (v := ?_) (by simp only [gA, gB, gC]; rfl) (by kernel_rfl) (by kernel_rfl) (by kernel_rfl) (by exact fun _ _ _ h => h) (Or.inl ⟨by rfl, ?_⟩) (by assumption) ?_; rotate_left; (focus (intro w hSw; (try dsimp only at hSw); go_simp; try with_reducible rfl)); (try simp only [Act.put, sA, sB, sC])
            refine wpAnyH_take (i := 1) (v := ?_) (by simp only [gA, gB, gC]; rfl) (by kernel_rfl) (by kernel_rfl) (by kernel_rfl) (by exact fun _ _ _ h => h) (Or.inl ⟨by rfl, ?_⟩) (by assumption) ?_; rotate_left; (focus (intro w hSw; (try dsimp only at hSw); go_simp; try with_reducible rfl)); (try simp only [Act.put, sA, sB, sC])
            refine wpAnyH_take (i := 2) (v := ?_) (by simp only [gA, gB, gC]; rfl) (by kernel_rfl) (by kernel_rfl) (by kernel_rfl) (by exact fun _ _ _ h => h) (Or.inl ⟨by rfl, ?_⟩) (by assumption) ?_; rotate_left; (focus (intro w hSw; (try dsimp only at hSw); go_simp; try with_reducible rfl)); (try simp only [Act.put, sA, sB, sC])
            refine wpAnyH_take (i := 3) (v := ?_) (by simp only [gA, gB, gC]; rfl) (by kernel_rfl) (by kernel_rfl) (by kernel_rfl) (by exact fun _ _ _ h => h) (Or.inl ⟨by rfl, ?_⟩) (by assumption) ?_; rotate_left; (focus (intro w hSw; (try dsimp only at hSw); go_simp; try with_reducible rfl)); (try simp only [Act.put, sA, sB, sC])
            refine wpAnyH_take (i := 7) (v := ?_) (by simp only [gA, gB, gC]; rfl) (by kernel_rfl) (by kernel_rfl) (by kernel_rfl) (by exact fun _ _ _ h => h) (Or.inl ⟨by rfl, ?_⟩) (by assumption) ?_; rotate_left; (focus (intro w hSw; (try dsimp only at hSw); go_simp; try with_reducible rfl)); (try simp only [Act.put, sA, sB, sC])
            refine wpAnyH_take (i := 8) (v := _) (by simp only [gA, gB, gC]; rfl) (by kernel_rfl) (by kernel_rfl) (by kernel_rfl) (by exact fun _ _ _ h => h) (yields_cell (by rfl) _ rfl ⟨w.heap.size, 0, none⟩ rfl (.slice (some y) n ct) (fun _ q => q.box) slab_load) (by assumption) ?_; (try simp only [Act.put, sA, sB, sC])
            refine wpAnyH_take (i := 9) (v := ?_) (by simp only [gA, gB, gC]; rfl) (by kernel_rfl) (by kernel_rfl) (by kernel_rfl) (by exact fun _ _ _ h => h) (Or.inl ⟨by rfl, ?_⟩) (by assumption) ?_; rotate_left; (focus (intro w hSw; (try dsimp only at hSw); go_simp; try with_reducible rfl)); (try simp only [Act.put, sA, sB, sC])
            refine wpAnyH_take (i := 10) (v := ?_) (by simp only [gA, gB, gC]; rfl) (by kernel_rfl) (by kernel_rfl) (by kernel_rfl) (by exact fun _ _ _ h => h) (Or.inl ⟨by rfl, ?_⟩) (by assumption) ?_; rotate_left; (focus (intro w hSw; (try dsimp only at hSw); go_simp; try with_reducible rfl)); (try simp only [Act.put, sA, sB, sC])
            refine wpAnyH_take (i := 11) (v := _) (by simp only [gA, gB, gC]; rfl) (by kernel_rfl) (by kernel_rfl) (by kernel_rfl) (by exact fun _ _ _ h => h) (yields_at (by rfl) _ rfl _ rfl [.int .i64 tt.s, .int .i64 tt.c, .int .i64 tt.i, .int .i64 tt.k] (fun _ q => q.lab hl hti) Tryd.underlying26 rfl hsl) (by assumption) ?_; (try simp only [Act.put, sA, sB, sC])
            refine wpAnyH_take (i := 12) (v := ?_) (by simp only [gA, gB, gC]; rfl) (by kernel_rfl) (by kernel_rfl) (by kernel_rfl) (by exact fun _ _ _ h => h) (Or.inl ⟨by rfl, ?_⟩) (by assumption) ?_; rotate_left; (focus (intro w hSw; (try dsimp only at hSw); go_simp; try with_reducible rfl)); (try simp only [Act.put, sA, sB, sC])
            refine wpAnyH_ready (rs := [4, 13]) (by kernel_rfl) (by simp) ?_
            refine AllReadyH.cons (by simp only [gA, gB, gC]; rfl) (fun K hK => ?_) ?_
            · go_simp
              (try simp only [hwu2])
              refine hK.out _ _ (hS0.then (alloc_below _ _)) ?_
              clear hHeld hK
              intro hHeld
              have hbt := chr_made2 w0 q (by omega)
              have hS1 := hS0.then (alloc_below w0 (.cells #[.int .u8 (48 + (q : Int))] 5))
              have ho1 := ho0.below (alloc_below w0 (.cells #[.int .u8 (48 + (q : Int))] 5))
              generalize hwx : w0.alloc (.cells #[.int .u8 (48 + (q : Int))] 5) = w1 at *
              clear hwx
              generalize w0.heap.size = pb at *
              (try simp only [Act.put, sA, sB, sC])
              refine wpAnyH_ready (rs := [5, 13]) (by kernel_rfl) (by simp) ?_
              refine AllReadyH.cons (by simp only [gA, gB, gC]; rfl) (fun K hK => ?_) ?_
              · skip
                refine step_conv rfl _ rfl rfl hbt.conv ?_
                (try simp only [Act.put, sA, sB, sC])
                refine hK.out _ _ (hS1) ?_
                clear hHeld hK
                intro hHeld
                have hS2 := hS1
                have ho2 := ho1
                obtain ⟨w2, hww⟩ : ∃ w', w1 = w' := ⟨_, rfl⟩
                rw [hww] at hS2 ho2 hHeld ⊢
                clear hww
                (try simp only [Act.put, sA, sB, sC])
                refine wpAnyH_take (i := 6) (v := ?_) (by simp only [gA, gB, gC]; rfl) (by kernel_rfl) (by kernel_rfl) (by kernel_rfl) (by exact fun _ _ _ h => h) (Or.inl ⟨by rfl, ?_⟩) (by assumption) ?_; rotate_left; (focus (intro w hSw; (try dsimp only at hSw); go_simp; try with_reducible rfl)); (try simp only [Act.put, sA, sB, sC])
                refine wpAnyH_ready (rs := [13]) (by kernel_rfl) (by simp) ?_
                refine AllReadyH.cons (by simp only [gA, gB, gC]; rfl) (fun K hK => ?_) AllReadyH.nil
                go_simp
                go_at_call 39
                refine (rlbottom_any _).mono ?_
                rintro e w3 ⟨rfl, hB⟩
                have hS3 := hS2.then hB
                have ho3 := ho2.below hB
                refine hK.out _ _ (hS3) ?_
                clear hHeld hK
                intro hHeld
                (try simp only [Act.put, sA, sB, sC])
                refine wpAnyH_take (i := 14) (v := ?_) (by simp only [gA, gB, gC]; rfl) (by kernel_rfl) (by kernel_rfl) (by kernel_rfl) (by exact fun _ _ _ h => h) (Or.inl ⟨by rfl, ?_⟩) (by assumption) ?_; rotate_left; (focus (intro w hSw; (try dsimp only at hSw); go_simp; try with_reducible rfl)); (try simp only [Act.put, sA, sB, sC])
                refine wpAnyH_ready (rs := [15]) (by kernel_rfl) (by simp) ?_
                refine AllReadyH.cons (by simp only [gA, gB, gC]; rfl) (fun K hK => ?_) AllReadyH.nil
                refine step_build1 pn_ok (by decide) rfl _ rfl [.string (⟨#[47, 108]⟩ ++ chr (48 + q)), .bool true, .int .i64 tt.s, .int .i64 tt.c, .int .i64 tt.i, .int .i64 tt.k, .slice (some ⟨w.heap.size + 1, 0, none⟩) 1 1, .int .i64 0, .int .i64 0, .int .i64 0, .int .i64 0, .slice none 0 0, .int .i64 bottomL.s, .int .i64 bottomL.c, .int .i64 bottomL.i, .int .i64 bottomL.k] rfl rfl ?_
                (try simp only [Act.put, sA, sB, sC])
                refine hK.out _ _ (hS3.then (alloc_below _ _)) ?_
                clear hHeld hK
                intro hHeld
                obtain ⟨vz, wz, hap, hoz, hgz⟩ := OwnR.push pn_ok ho3 hS3.sz ⟨dirN q tt, some ⟨w.heap.size + 1, 0, none⟩, 1, none, 0⟩ [.string (⟨#[47, 108]⟩ ++ chr (48 + q)), .bool true, .int .i64 tt.s, .int .i64 tt.c, .int .i64 tt.i, .int .i64 tt.k, .slice (some ⟨w.heap.size + 1, 0, none⟩) 1 1, .int .i64 0, .int .i64 0, .int .i64 0, .int .i64 0, .slice none 0 0, .int .i64 bottomL.s, .int .i64 bottomL.c, .int .i64 bottomL.i, .int .i64 bottomL.k].toArray (by rw [dir_cs]) 32 (by rw [firstP_len]; have := hdl j; omega)
                have hbz := ho3.grew_below hS3.sz hgz
                have hSz := hS3.grown hbz
                rw [← hfs.out] at hoz
                (try simp only [Act.put, sA, sB, sC])
                refine wpAnyH_ready (rs := [16]) (by kernel_rfl) (by simp) ?_
                refine AllReadyH.cons (by simp only [gA, gB, gC]; rfl) (fun K hK => ?_) AllReadyH.nil
                refine step_append rfl _ _ rfl rfl rfl rfl hap ?_
                (try simp only [Act.put, sA, sB, sC])
                refine hK.out _ _ (hSz) ?_
                clear hHeld hK
                intro hHeld
                (try simp only [Act.put, sA, sB, sC])
                refine wpAnyH_take (i := 17) (v := ?_) (by simp only [gA, gB, gC]; rfl) (by kernel_rfl) (by kernel_rfl) (by kernel_rfl) (by exact fun _ _ _ h => h) (Or.inl ⟨by rfl, ?_⟩) (by assumption) ?_; rotate_left; (focus (intro w hSw; (try dsimp only at hSw); go_simp; try with_reducible rfl)); (try simp only [Act.put, sA, sB, sC])
                refine wpAnyH_done (by kernel_rfl) ?_ _
                go_wp2_with fail
                exact ⟨⟨j + 1, by omega, by simp, q + 1, by simp, hqn, hSz, hoz⟩, by simp [Go.RowKit.intOf]; omega⟩
              refine AllReadyH.cons (by simp only [gA, gB, gC]; rfl) (fun K hK => ?_) AllReadyH.nil
              go_simp
              go_at_call 39
              refine (rlbottom_any _).mono ?_
              rintro e w2 ⟨rfl, hB⟩
              have hS2 := hS1.then hB
              have ho2 := ho1.below hB
              have hbt := hbt.below hB
              refine hK.out _ _ (hS2) ?_
              clear hHeld hK
              intro hHeld
              (try simp only [Act.put, sA, sB, sC])
              refine wpAnyH_ready (rs := [5]) (by kernel_rfl) (by simp) ?_
              refine AllReadyH.cons (by simp only [gA, gB, gC]; rfl) (fun K hK => ?_) AllReadyH.nil
              refine step_conv rfl _ rfl rfl hbt.conv ?_
              (try simp only [Act.put, sA, sB, sC])
              refine hK.out _ _ (hS2) ?_
              clear hHeld hK
              intro hHeld
              have hS3 := hS2
              have ho3 := ho2
              obtain ⟨w3, hww⟩ : ∃ w', w2 = w' := ⟨_, rfl⟩
              rw [hww] at hS3 ho3 hHeld ⊢
              clear hww
              (try simp only [Act.put, sA, sB, sC])
              refine wpAnyH_take (i := 6) (v := ?_) (by simp only [gA, gB, gC]; rfl) (by kernel_rfl) (by kernel_rfl) (by kernel_rfl) (by exact fun _ _ _ h => h) (Or.inl ⟨by rfl, ?_⟩) (by assumption) ?_; rotate_left; (focus (intro w hSw; (try dsimp only at hSw); go_simp; try with_reducible rfl)); (try simp only [Act.put, sA, sB, sC])
              refine wpAnyH_take (i := 14) (v := ?_) (by simp only [gA, gB, gC]; rfl) (by kernel_rfl) (by kernel_rfl) (by kernel_rfl) (by exact fun _ _ _ h => h) (Or.inl ⟨by rfl, ?_⟩) (by assumption) ?_; rotate_left; (focus (intro w hSw; (try dsimp only at hSw); go_simp; try with_reducible rfl)); (try simp only [Act.put, sA, sB, sC])
              refine wpAnyH_ready (rs := [15]) (by kernel_rfl) (by simp) ?_
              refine AllReadyH.cons (by simp only [gA, gB, gC]; rfl) (fun K hK => ?_) AllReadyH.nil
              refine step_build1 pn_ok (by decide) rfl _ rfl [.string (⟨#[47, 108]⟩ ++ chr (48 + q)), .bool true, .int .i64 tt.s, .int .i64 tt.c, .int .i64 tt.i, .int .i64 tt.k, .slice (some ⟨w.heap.size + 1, 0, none⟩) 1 1, .int .i64 0, .int .i64 0, .int .i64 0, .int .i64 0, .slice none 0 0, .int .i64 bottomL.s, .int .i64 bottomL.c, .int .i64 bottomL.i, .int .i64 bottomL.k] rfl rfl ?_
              (try simp only [Act.put, sA, sB, sC])
              refine hK.out _ _ (hS3.then (alloc_below _ _)) ?_
              clear hHeld hK
              intro hHeld
              obtain ⟨vz, wz, hap, hoz, hgz⟩ := OwnR.push pn_ok ho3 hS3.sz ⟨dirN q tt, some ⟨w.heap.size + 1, 0, none⟩, 1, none, 0⟩ [.string (⟨#[47, 108]⟩ ++ chr (48 + q)), .bool true, .int .i64 tt.s, .int .i64 tt.c, .int .i64 tt.i, .int .i64 tt.k, .slice (some ⟨w.heap.size + 1, 0, none⟩) 1 1, .int .i64 0, .int .i64 0, .int .i64 0, .int .i64 0, .slice none 0 0, .int .i64 bottomL.s, .int .i64 bottomL.c, .int .i64 bottomL.i, .int .i64 bottomL.k].toArray (by rw [dir_cs]) 32 (by rw [firstP_len]; have := hdl j; omega)
              have hbz := ho3.grew_below hS3.sz hgz
              have hSz := hS3.grown hbz
              rw [← hfs.out] at hoz
              (try simp only [Act.put, sA, sB, sC])
              refine wpAnyH_ready (rs := [16]) (by kernel_rfl) (by simp) ?_
              refine AllReadyH.cons (by simp only [gA, gB, gC]; rfl) (fun K hK => ?_) AllReadyH.nil
              refine step_append rfl _ _ rfl rfl rfl rfl hap ?_
              (try simp only [Act.put, sA, sB, sC])
              refine hK.out _ _ (hSz) ?_
              clear hHeld hK
              intro hHeld
              (try simp only [Act.put, sA, sB, sC])
              refine wpAnyH_take (i := 17) (v := ?_) (by simp only [gA, gB, gC]; rfl) (by kernel_rfl) (by kernel_rfl) (by kernel_rfl) (by exact fun _ _ _ h => h) (Or.inl ⟨by rfl, ?_⟩) (by assumption) ?_; rotate_left; (focus (intro w hSw; (try dsimp only at hSw); go_simp; try with_reducible rfl)); (try simp only [Act.put, sA, sB, sC])
              refine wpAnyH_done (by kernel_rfl) ?_ _
              go_wp2_with fail
              exact ⟨⟨j + 1, by omega, by simp, q + 1, by simp, hqn, hSz, hoz⟩, by simp [Go.RowKit.intOf]; omega⟩
            refine AllReadyH.cons (by simp only [gA, gB, gC]; rfl) (fun K hK => ?_) AllReadyH.nil
            go_simp
            go_at_call 39
            refine (rlbottom_any _).mono ?_
            rintro e w1 ⟨rfl, hB⟩
            have hS1 := hS0.then hB
            have ho1 := ho0.below hB
            refine hK.out _ _ (hS1) ?_
            clear hHeld hK
            intro hHeld
            (try simp only [Act.put, sA, sB, sC])
            refine wpAnyH_ready (rs := [4]) (by kernel_rfl) (by simp) ?_
            refine AllReadyH.cons (by simp only [gA, gB, gC]; rfl) (fun K hK => ?_) AllReadyH.nil
            go_simp
            (try simp only [hwu2])
            refine hK.out _ _ (hS1.then (alloc_below _ _)) ?_
            clear hHeld hK
            intro hHeld
            have hbt := chr_made2 w1 q (by omega)
            have hS2 := hS1.then (alloc_below w1 (.cells #[.int .u8 (48 + (q : Int))] 5))
            have ho2 := ho1.below (alloc_below w1 (.cells #[.int .u8 (48 + (q : Int))] 5))
            generalize hwx : w1.alloc (.cells #[.int .u8 (48 + (q : Int))] 5) = w2 at *
            clear hwx
            generalize w1.heap.size = pb at *
            (try simp only [Act.put, sA, sB, sC])
            refine wpAnyH_ready (rs := [5]) (by kernel_rfl) (by simp) ?_
            refine AllReadyH.cons (by simp only [gA, gB, gC]; rfl) (fun K hK => ?_) AllReadyH.nil
            refine step_conv rfl _ rfl rfl hbt.conv ?_
            (try simp only [Act.put, sA, sB, sC])
            refine hK.out _ _ (hS2) ?_
            clear hHeld hK
            intro hHeld
            have hS3 := hS2
            have ho3 := ho2
            obtain ⟨w3, hww⟩ : ∃ w', w2 = w' := ⟨_, rfl⟩
            rw [hww] at hS3 ho3 hHeld ⊢
            clear hww
            (try simp only [Act.put, sA, sB, sC])
            refine wpAnyH_take (i := 6) (v := ?_) (by simp only [gA, gB, gC]; rfl) (by kernel_rfl) (by kernel_rfl) (by kernel_rfl) (by exact fun _ _ _ h => h) (Or.inl ⟨by rfl, ?_⟩) (by assumption) ?_; rotate_left; (focus (intro w hSw; (try dsimp only at hSw); go_simp; try with_reducible rfl)); (try simp only [Act.put, sA, sB, sC])
            refine wpAnyH_take (i := 14) (v := ?_) (by simp only [gA, gB, gC]; rfl) (by kernel_rfl) (by kernel_rfl) (by kernel_rfl) (by exact fun _ _ _ h => h) (Or.inl ⟨by rfl, ?_⟩) (by assumption) ?_; rotate_left; (focus (intro w hSw; (try dsimp only at hSw); go_simp; try with_reducible rfl)); (try simp only [Act.put, sA, sB, sC])
            refine wpAnyH_ready (rs := [15]) (by kernel_rfl) (by simp) ?_
            refine AllReadyH.cons (by simp only [gA, gB, gC]; rfl) (fun K hK => ?_) AllReadyH.nil
            refine step_build1 pn_ok (by decide) rfl _ rfl [.string (⟨#[47, 108]⟩ ++ chr (48 + q)), .bool true, .int .i64 tt.s, .int .i64 tt.c, .int .i64 tt.i, .int .i64 tt.k, .slice (some ⟨w.heap.size + 1, 0, none⟩) 1 1, .int .i64 0, .int .i64 0, .int .i64 0, .int .i64 0, .slice none 0 0, .int .i64 bottomL.s, .int .i64 bottomL.c, .int .i64 bottomL.i, .int .i64 bottomL.k] rfl rfl ?_
            (try simp only [Act.put, sA, sB, sC])
            refine hK.out _ _ (hS3.then (alloc_below _ _)) ?_
            clear hHeld hK
            intro hHeld
            obtain ⟨vz, wz, hap, hoz, hgz⟩ := OwnR.push pn_ok ho3 hS3.sz ⟨dirN q tt, some ⟨w.heap.size + 1, 0, none⟩, 1, none, 0⟩ [.string (⟨#[47, 108]⟩ ++ chr (48 + q)), .bool true, .int .i64 tt.s, .int .i64 tt.c, .int .i64 tt.i, .int .i64 tt.k, .slice (some ⟨w.heap.size + 1, 0, none⟩) 1 1, .int .i64 0, .int .i64 0, .int .i64 0, .int .i64 0, .slice none 0 0, .int .i64 bottomL.s, .int .i64 bottomL.c, .int .i64 bottomL.i, .int .i64 bottomL.k].toArray (by rw [dir_cs]) 32 (by rw [firstP_len]; have := hdl j; omega)
            have hbz := ho3.grew_below hS3.sz hgz
            have hSz := hS3.grown hbz
            rw [← hfs.out] at hoz
            (try simp only [Act.put, sA, sB, sC])
            refine wpAnyH_ready (rs := [16]) (by kernel_rfl) (by simp) ?_
            refine AllReadyH.cons (by simp only [gA, gB, gC]; rfl) (fun K hK => ?_) AllReadyH.nil
            refine step_append rfl _ _ rfl rfl rfl rfl hap ?_
            (try simp only [Act.put, sA, sB, sC])
            refine hK.out _ _ (hSz) ?_
            clear hHeld hK
            intro hHeld
            (try simp only [Act.put, sA, sB, sC])
            refine wpAnyH_take (i := 17) (v := ?_) (by simp only [gA, gB, gC]; rfl) (by kernel_rfl) (by kernel_rfl) (by kernel_rfl) (by exact fun _ _ _ h => h) (Or.inl ⟨by rfl, ?_⟩) (by assumption) ?_; rotate_left; (focus (intro w hSw; (try dsimp only at hSw); go_simp; try with_reducible rfl)); (try simp only [Act.put, sA, sB, sC])
            refine wpAnyH_done (by kernel_rfl) ?_ _
            go_wp2_with fail
            exact ⟨⟨j + 1, by omega, by simp, q + 1, by simp, hqn, hSz, hoz⟩, by simp [Go.RowKit.intOf]; omega⟩
          · replace hfs := hfs.out
            replace hds := hds.out
            rw [hb, if_pos rfl] at hfs hds
            have hqn : Aside (q = (distTo ts (j + 1)).length) := by rw [hq.out]; exact hds.symm
            rw [← hfs] at ho2
            clear hfs hds
            go_wp2_with fail
            exact ⟨⟨j + 1, by omega, by simp, q, rfl, hqn, hS2, ho2⟩, by simp [Go.RowKit.intOf]; omega⟩
    · obtain rfl : i = n := by omega
      go_wp2_with fail
      go_ret
      exact ⟨_, rfl, ho.lower (by omega), hS.all, hS.bl⟩
end Go.Proofs.YtacjfbomjglnjaaDoor

/-! STRUCTS THAT CAME IN, WHATEVER THEIR NUMBER OF CELLS; labels. For every stage from the tenth on. -/
namespace Go.Proofs.YtacjfbomjglnjaaDoor
open Go.ChangeShapes Go.WideShapes Go.ChangeAt Go.RowKit
set_option maxRecDepth 8000
set_option linter.unusedVariables false
set_option linter.unusedSimpArgs false

def lcells (l : Lab) : List Value := [.int .i64 l.s, .int .i64 l.c, .int .i64 l.i, .int .i64 l.k]
def fitsI (n : Int) : Prop := -9223372036854775808 ≤ n ∧ n ≤ 9223372036854775807
def Lab.fits (l : Lab) : Prop := fitsI l.s ∧ fitsI l.c ∧ fitsI l.i ∧ fitsI l.k
theorem cInt : Tryd.prog.cellsOf 3 = 1 := by kernel_rfl
theorem cStr : Tryd.prog.cellsOf 9 = 1 := by kernel_rfl
theorem cBool : Tryd.prog.cellsOf 4 = 1 := by kernel_rfl
theorem cLab : Tryd.prog.cellsOf 26 = 4 := by kernel_rfl
/-- A struct as a parameter: its cells, and how they read. -/
theorem open_struct {H : Type} {enc : TypeId × Value → H} {W : World} {r : Reach} {b0 base : Nat} {sp : Nat → Bool} {held : Bool} {t : TypeId} {fs : Array Field} {v : Value} {d : DataW H} {p : List MemPlace} {q : List Value → Prop} (hs : Tryd.prog.underlying t = some (.struct fs)) (hq : Reads enc W base sp held t q)
    (hv : Value.okWide Tryd.prog W r b0 t v) (h : DataW.Trod enc Tryd.prog W base sp held t v d p) : ∃ cs : List Value, v = .agg cs.toArray ∧ q cs := by
  obtain ⟨cs, rfl, hsz⟩ := okWide_struct hs hv
  obtain ⟨fuel, hf⟩ := h
  exact ⟨cs.toList, by simp, hq fuel cs.toList (d, p) hf⟩
section
variable {H : Type} {enc : TypeId × Value → H} {W : World} {base : Nat} {sp : Nat → Bool} {held : Bool}
theorem reads_lab : Reads enc W base sp held 26 fun cs => ∃ l, cs = lcells l ∧ l.fits := fun n cs x h => by
  have hl := struct_len und cLab h
  obtain ⟨s, e0, w0⟩ := read_field (i := 0) (ty := 3) (off := 0) und (by kernel_rfl) cInt (reads_int Tryd.underlying3) h
  obtain ⟨c, e1, w1⟩ := read_field (i := 1) (ty := 3) (off := 1) und (by kernel_rfl) cInt (reads_int Tryd.underlying3) h
  obtain ⟨i, e2, w2⟩ := read_field (i := 2) (ty := 3) (off := 2) und (by kernel_rfl) cInt (reads_int Tryd.underlying3) h
  obtain ⟨k, e3, w3⟩ := read_field (i := 3) (ty := 3) (off := 3) und (by kernel_rfl) cInt (reads_int Tryd.underlying3) h
  match cs, hl with
  | [v0, v1, v2, v3], _ =>
    simp at e0 e1 e2 e3
    subst e0 e1 e2 e3
    exact ⟨⟨s, c, i, k⟩, rfl, int_fits w0, int_fits w1, int_fits w2, int_fits w3⟩
end
/-- A row within a struct. -/
theorem reads_rows {α : Type} {H : Type} {enc : TypeId × Value → H} {W : World} {t e : TypeId} {sz : Nat} {f : α → List Value} {q : α → Prop} (ht : Tryd.prog.underlying t = some (.slice e)) (hc : Tryd.prog.cellsOf e = sz) (hp : Reads enc W 0 (fun _ => true) true e fun cs => ∃ g, cs = f g ∧ q g) (hone : Tryd.prog.cellsOf t = 1) :
    Reads enc W 0 (fun _ => true) true t fun cs => ∃ (l : List α) (a : Option Addr) (cap : Nat), cs = [.slice a l.length cap] ∧ (∀ j g, l[j]? = some g → ∃ y, a = some y ∧ (∀ i, i < sz → W.cell? (y.add (j * sz + i)) = (f g)[i]?)) ∧ (∀ g ∈ l, q g) ∧ (a = none → cap = 0) ∧ l.length ≤ cap := fun n cs x h => by
  have h' := h
  rcases Go.Deep.open_slice ht h with ⟨hcs, _⟩ | ⟨ad, l, c', m, n', Dd, Pl, hcs, _⟩
  · subst hcs
    obtain ⟨L, hL, h1, h2, h3, h4, _⟩ := open_rows (f := f) (q := q) ht hc hp h'
    exact ⟨L, _, _, by rw [hL], h1, h2, h3, by omega⟩
  · subst hcs
    obtain ⟨L, hL, h1, h2, h3, h4, _⟩ := open_rows (f := f) (q := q) ht hc hp h'
    exact ⟨L, _, _, by rw [hL], h1, h2, h3, by omega⟩
end Go.Proofs.YtacjfbomjglnjaaDoor

/-! NODES AND BRACKETS THAT CAME IN (door seats). Written by mk_ndoor.py. -/
namespace Go.Proofs.YtacjfbomjglnjaaDoor
open Go.ChangeShapes Go.WideShapes Go.ChangeAt Go.RowKit
set_option maxRecDepth 8000
set_option linter.unusedVariables false
set_option linter.unusedSimpArgs false

def gcells (g : Gr) : List Value := [.string g.u, .int .i64 g.m]
def wcell (x : Int) : List Value := [.int .i64 x]
theorem RowAt.grs {W : World} {a : Option Addr} {l : List Gr} (h : RowAt 2 gcells W a l) : GrsAt W a l := fun j q hq => by
  obtain ⟨y, hy, hc⟩ := h j q hq
  refine ⟨y, hy, hc 0 (by omega), ?_⟩
  have := hc 1 (by omega)
  rw [add_off _ _ _ (by omega)] at this
  exact this
theorem RowAt.wrds {W : World} {a : Option Addr} {l : List Int} (h : RowAt 1 wcell W a l) : WrdsAt W a l := fun j q hq => by
  obtain ⟨y, hy, hc⟩ := h j q hq
  have := hc 0 (by omega)
  rw [Nat.mul_one, Nat.add_zero] at this
  exact ⟨y, hy, this⟩
theorem undGr : Tryd.prog.underlying 77 = some (.struct (Tryd.prog.fieldsOf 77)) := by kernel_rfl
theorem undRi : Tryd.prog.underlying 29 = some (.struct (Tryd.prog.fieldsOf 29)) := by kernel_rfl
theorem undNd : Tryd.prog.underlying 32 = some (.struct (Tryd.prog.fieldsOf 32)) := by kernel_rfl
theorem cGr : Tryd.prog.cellsOf 77 = 2 := by kernel_rfl
theorem cRi : Tryd.prog.cellsOf 29 = 4 := by kernel_rfl
theorem cNd : Tryd.prog.cellsOf 32 = 16 := by kernel_rfl
theorem cI64 : Tryd.prog.cellsOf 2 = 1 := by kernel_rfl
theorem cGrs : Tryd.prog.cellsOf 27 = 1 := by kernel_rfl
theorem cWds : Tryd.prog.cellsOf 30 = 1 := by kernel_rfl
/-- What a node that came in keeps to. -/
structure Nod.Fits (n : Nod) : Prop where
  p : n.path.size ≤ 9223372036854775807
  g : ∀ g ∈ n.acl, g.u.size ≤ 9223372036854775807
  w : ∀ x ∈ n.words, -9223372036854775808 ≤ x ∧ x ≤ 9223372036854775807
section
variable {H : Type} {enc : TypeId × Value → H} {W : World}
theorem reads_gr {base : Nat} {sp : Nat → Bool} {held : Bool} : Reads enc W base sp held 77 fun cs => ∃ g, cs = gcells g ∧ g.u.size ≤ 9223372036854775807 := fun n cs x h => by
  have hl := struct_len undGr cGr h
  obtain ⟨u, e0, w0⟩ := read_field (i := 0) (ty := 9) (off := 0) undGr (by kernel_rfl) cStr (reads_string Tryd.underlying9) h
  obtain ⟨m, e1, w1⟩ := read_field (i := 1) (ty := 3) (off := 1) undGr (by kernel_rfl) cInt (reads_int Tryd.underlying3) h
  match cs, hl with
  | [v0, v1], _ =>
    simp at e0 e1
    subst e0 e1
    exact ⟨⟨u, m⟩, rfl, w0⟩
theorem reads_ri {base : Nat} {sp : Nat → Bool} {held : Bool} : Reads enc W base sp held 29 fun cs => ∃ a b c d : Int, cs = [.int .i64 a, .int .i64 b, .int .i64 c, .int .i64 d] := fun n cs x h => by
  have hl := struct_len undRi cRi h
  obtain ⟨s, e0, w0⟩ := read_field (i := 0) (ty := 3) (off := 0) undRi (by kernel_rfl) cInt (reads_int Tryd.underlying3) h
  obtain ⟨c, e1, w1⟩ := read_field (i := 1) (ty := 3) (off := 1) undRi (by kernel_rfl) cInt (reads_int Tryd.underlying3) h
  obtain ⟨i, e2, w2⟩ := read_field (i := 2) (ty := 3) (off := 2) undRi (by kernel_rfl) cInt (reads_int Tryd.underlying3) h
  obtain ⟨k, e3, w3⟩ := read_field (i := 3) (ty := 3) (off := 3) undRi (by kernel_rfl) cInt (reads_int Tryd.underlying3) h
  match cs, hl with
  | [v0, v1, v2, v3], _ =>
    simp at e0 e1 e2 e3
    subst e0 e1 e2 e3
    exact ⟨s, c, i, k, rfl⟩
theorem reads_wd {base : Nat} {sp : Nat → Bool} {held : Bool} : Reads enc W base sp held 2 fun cs => ∃ x : Int, cs = wcell x ∧ (-9223372036854775808 ≤ x ∧ x ≤ 9223372036854775807) := fun n cs x h => by
  obtain ⟨m, e, hw⟩ := reads_int Tryd.underlying2 n cs x h
  exact ⟨m, e, int_fits hw⟩
theorem reads_nd : Reads enc W 0 (fun _ => true) true 32 fun cs => ∃ (n : Nod) (aa : Option Addr) (ca : Nat) (wa : Option Addr) (cw : Nat), .agg cs.toArray = n.v aa ca wa cw ∧ n.Fits ∧ GrsAt W aa n.acl ∧ WrdsAt W wa n.words ∧ (wa = none → cw = 0) ∧ n.words.length ≤ cw := fun fu cs x h => by
  have hl := struct_len undNd cNd h
  obtain ⟨pa, e0, w0⟩ := read_field (i := 0) (ty := 9) (off := 0) undNd (by kernel_rfl) cStr (reads_string Tryd.underlying9) h
  obtain ⟨di, e1⟩ := read_field (i := 1) (ty := 4) (off := 1) undNd (by kernel_rfl) cBool (reads_bool Tryd.underlying4) h
  obtain ⟨la, e2, _⟩ := read_field (i := 2) (ty := 26) (off := 2) undNd (by kernel_rfl) cLab reads_lab h
  obtain ⟨gs, aa, ca, e3, hg, hgq, _, _⟩ := read_field (i := 3) (ty := 27) (off := 6) undNd (by kernel_rfl) cGrs (reads_rows (f := gcells) Tryd.underlying27 cGr reads_gr cGrs) h
  obtain ⟨r1, r2, r3, r4, e4⟩ := read_field (i := 4) (ty := 29) (off := 7) undNd (by kernel_rfl) cRi reads_ri h
  obtain ⟨ws, wa, cw, e5, hv, hvq, hno, hle⟩ := read_field (i := 5) (ty := 30) (off := 11) undNd (by kernel_rfl) cWds (reads_rows (f := wcell) Tryd.underlying30 cI64 reads_wd cWds) h
  obtain ⟨lb, e6, _⟩ := read_field (i := 6) (ty := 26) (off := 12) undNd (by kernel_rfl) cLab reads_lab h
  match cs, hl with
  | [v0, v1, v2, v3, v4, v5, v6, v7, v8, v9, v10, v11, v12, v13, v14, v15], _ =>
    simp [lcells] at e0 e1 e2 e3 e4 e5 e6
    obtain ⟨rfl, rfl, rfl, rfl⟩ := e2
    obtain ⟨rfl, rfl, rfl, rfl⟩ := e4
    obtain ⟨rfl, rfl, rfl, rfl⟩ := e6
    subst e0 e1 e3 e5
    exact ⟨⟨pa, di, la, gs, r1, r2, r3, r4, ws, lb⟩, aa, ca, wa, cw, rfl, ⟨w0, hgq, hvq⟩, RowAt.grs hg, RowAt.wrds hv, hno, hle⟩
theorem open_nd {r : Reach} {b0 : Nat} {v : Value} {d : DataW H} {p : List MemPlace} (hv : Value.okWide Tryd.prog W r b0 32 v) (h : DataW.Trod enc Tryd.prog W 0 (fun _ => true) true 32 v d p) :
    ∃ (n : Nod) (aa : Option Addr) (ca : Nat) (wa : Option Addr) (cw : Nat), v = n.v aa ca wa cw ∧ n.Fits ∧ GrsAt W aa n.acl ∧ WrdsAt W wa n.words ∧ (wa = none → cw = 0) ∧ n.words.length ≤ cw := by
  obtain ⟨cs, rfl, n, aa, ca, wa, cw, he, hf, hg, hw, hz, hc⟩ := open_struct undNd reads_nd hv h
  exact ⟨n, aa, ca, wa, cw, he, hf, hg, hw, hz, hc⟩
theorem open_rg {r : Reach} {b0 base : Nat} {sp : Nat → Bool} {held : Bool} {v : Value} {d : DataW H} {p : List MemPlace} (hv : Value.okWide Tryd.prog W r b0 29 v) (h : DataW.Trod enc Tryd.prog W base sp held 29 v d p) : ∃ x : Rg, v = x.v := by
  obtain ⟨cs, rfl, a, b, c, e, he⟩ := open_struct undRi reads_ri hv h
  exact ⟨⟨a, b, c, e⟩, by rw [he]⟩
end
end Go.Proofs.YtacjfbomjglnjaaDoor

/-! A LIST OF GRANTS SUCH AS MAY BE, OF NUMBERS: the law's Acl (donjonlaw11). -/
namespace Go.Proofs.YtacjfbomjglnjaaDoor
open Go.RowKit
set_option maxRecDepth 8000
set_option linter.unusedSimpArgs false
set_option linter.unusedVariables false

def hasTo (gs : List Gr) : Nat → List Int
  | 0 => [0, 0, 0, 0, 0]
  | i + 1 => (hasTo gs i).set ((gs.getD i zGr).m % 5).toNat (1 + wrap64 ((gs.getD i zGr).m.tdiv 5) % 7)
def hasAll (gs : List Gr) : List Int := hasTo gs (min gs.length 8)
def usr (k : Nat) : ByteArray := if k = 0 then starS else chr (96 + k)
def aclTo (h : List Int) : Nat → List Gr
  | 0 => []
  | k + 1 => if 0 < h.getD k 0 ∧ (aclTo h k).length < 4 then aclTo h k ++ [⟨usr k, h.getD k 0⟩] else aclTo h k
def aclOf (gs : List Gr) : List Gr := aclTo (hasAll gs) 5
theorem has_len (gs : List Gr) : ∀ i, (hasTo gs i).length = 5
  | 0 => rfl
  | i + 1 => by rw [hasTo, List.length_set, has_len gs i]
theorem has_val (gs : List Gr) : ∀ i, ∀ x ∈ hasTo gs i, 0 ≤ x ∧ x ≤ 7
  | 0, x, h => by simp [hasTo] at h; omega
  | i + 1, x, h => by
    rw [hasTo] at h
    rcases List.mem_or_eq_of_mem_set h with h | h
    · exact has_val gs i x h
    · omega
theorem acl_len (h : List Int) : ∀ k, (aclTo h k).length ≤ 4 ∧ (aclTo h k).length ≤ k
  | 0 => by simp [aclTo]
  | k + 1 => by
    have := acl_len h k
    rw [aclTo]
    split
    · simp; omega
    · omega
theorem acl_full (h : List Int) {k : Nat} (hk : (aclTo h k).length = 4) : ∀ j, aclTo h (k + j) = aclTo h k
  | 0 => rfl
  | j + 1 => by
    rw [← Nat.add_assoc, aclTo, acl_full h hk j, if_neg (by omega)]
theorem usr_lt : ∀ k : Fin 5, ∀ j : Fin 5, j.val < k.val → lt (usr j.val) (usr k.val) = true := by decide +kernel
theorem usr_may : ∀ k : Fin 5, may (usr k.val) = true ∧ lt ⟨#[]⟩ (usr k.val) = true := by decide +kernel
/-- Grants that stand by their users, from a number on. -/
theorem okAcl_app (a : ByteArray) : ∀ (l : List Gr) (g : Gr), okAcl a l = true → may g.u = true → (∀ x ∈ l, lt x.u g.u = true) → lt a g.u = true → 1 ≤ g.m → g.m ≤ 7 → okAcl a (l ++ [g]) = true
  | [], g, _, h2, _, h4, h5, h6 => by simp [okAcl, h2, h4, h5, h6]
  | x :: r, g, h1, h2, h3, h4, h5, h6 => by
    rw [List.cons_append, okAcl]
    rw [okAcl, Bool.and_eq_true] at h1
    rw [Bool.and_eq_true]
    refine ⟨h1.1, okAcl_app x.u r g h1.2 h2 (fun y hy => h3 y (List.mem_cons_of_mem _ hy)) (h3 x List.mem_cons_self) h5 h6⟩
theorem acl_good (h : List Int) (hv : ∀ x ∈ h, 0 ≤ x ∧ x ≤ 7) (hl : h.length = 5) : ∀ k, k ≤ 5 → okAcl ⟨#[]⟩ (aclTo h k) = true ∧ ∀ x ∈ aclTo h k, ∃ j, j < k ∧ x.u = usr j
  | 0, _ => ⟨rfl, fun x hx => by simp [aclTo] at hx⟩
  | k + 1, hk => by
    obtain ⟨h1, h2⟩ := acl_good h hv hl k (by omega)
    rw [aclTo]
    split
    · rename_i hp
      have hm : h.getD k 0 ∈ h := by
        rw [List.getD_eq_getElem?_getD, List.getElem?_eq_getElem (by omega)]
        exact List.getElem_mem _
      have := hv _ hm
      obtain ⟨u1, u2⟩ := usr_may ⟨k, by omega⟩
      refine ⟨okAcl_app _ _ _ h1 u1 (fun x hx => ?_) u2 (by show 1 ≤ h.getD k 0; omega) (by show h.getD k 0 ≤ 7; omega), fun x hx => ?_⟩
      · obtain ⟨j, hj, e⟩ := h2 x hx
        rw [e]
        exact usr_lt ⟨k, by omega⟩ ⟨j, by omega⟩ hj
      · rcases List.mem_append.1 hx with hx | hx
        · obtain ⟨j, hj, e⟩ := h2 x hx
          exact ⟨j, by omega, e⟩
        · rw [List.mem_singleton] at hx
          subst hx
          exact ⟨k, by omega, rfl⟩
    · exact ⟨h1, fun x hx => by obtain ⟨j, hj, e⟩ := h2 x hx; exact ⟨j, by omega, e⟩⟩
theorem aclOf_ok (gs : List Gr) : chkA (aclOf gs) = 0 := by
  have h := acl_good (hasAll gs) (has_val gs _) (has_len gs _) 5 (Nat.le_refl _)
  have h2 := (acl_len (hasAll gs) 5).1
  unfold chkA aclOf
  rw [if_neg (by omega), if_pos h.1]
theorem has_get (gs : List Gr) (i k : Nat) : 0 ≤ (hasTo gs i).getD k 0 ∧ (hasTo gs i).getD k 0 ≤ 7 := by
  rw [List.getD_eq_getElem?_getD]
  cases h : (hasTo gs i)[k]? with
  | none => simp
  | some x => exact has_val gs i x (List.mem_of_getElem? h)

def gcl (g : Gr) : List Value := [.string g.u, .int .i64 g.m]
theorem gr_okT : ElemOk 77 27 2 gcl :=
  ⟨Tryd.underlying27, by
    obtain ⟨i, h1, h2, h3, h4⟩ := info_of (e := 77) (z := .agg #[.string ⟨#[]⟩, .int .i64 0]) (sz := 2) (b := 24) (by kernel_rfl)
    exact ⟨i, _, _, h1, h2, h3, h4, rfl, by omega⟩, by omega, fun _ => rfl, fun x u hu => by simp [gcl] at hu; rcases hu with rfl | rfl <;> rfl⟩
abbrev OwnGr (w : World) (base : Nat) (v : Value) (l : List Gr) : Prop := OwnR 77 2 gcl w base v l
def ivals (h : List Int) : List Value := h.map fun x => .int .i64 x
set_option maxHeartbeats 400000 in
theorem w11_any (k m : Int) (h0 : 0 < m) (h1 : m < 1000000) (w : World) :
    Calls Tryd.prog 13 #[.int .i64 k, .int .i64 m] w fun e w' => e = .returned (.int .i64 (k % m)) ∧ w' = w := by
  have b1 := Int.lt_tmod_of_pos k h0
  have b2 := Int.tmod_lt_of_pos k h0
  have hm0 : ¬ m = 0 := by omega
  have hm1 : ¬ m = -1 := by omega
  by_cases hn : k.tmod m < 0
  · have e1 : k % m = k.tmod m + m := by
      rw [Int.tmod_eq_emod] at hn ⊢
      split at hn
      · have := Int.emod_nonneg k (by omega : m ≠ 0); omega
      · rename_i hc; rw [if_neg hc]; rw [Int.natAbs_of_nonneg (by omega)]; omega
    rw [e1]
    clear e1
    go_enter Tryd.func13, Tryd.ntmps13
    go_wp2
    go_ret
    exact ⟨rfl, rfl⟩
  · have e1 : k % m = k.tmod m := by
      rw [Int.tmod_eq_emod] at hn ⊢
      split
      · simp
      · rename_i hc
        rw [if_neg hc] at hn
        have := Int.emod_lt_of_pos k h0
        rw [Int.natAbs_of_nonneg (by omega)] at *
        omega
    rw [e1]
    clear e1
    go_enter Tryd.func13, Tryd.ntmps13
    go_wp2
    go_ret
    exact ⟨rfl, rfl⟩
set_option maxHeartbeats 1000000 in
theorem aclT_any (a : Option Addr) (cap : Nat) (gs : List Gr) (w : World) (h : GrsAt w a gs) :
    Calls Tryd.prog 16 #[.slice a gs.length cap] w fun e w' => ∃ v, e = .returned v ∧ OwnGr w' w.heap.size v (aclOf gs) ∧ Below w.heap.size w w' := by
  have hb0 := blk_alloc w #[.int .i64 0, .int .i64 0, .int .i64 0, .int .i64 0, .int .i64 0] 75
  have hB0 := alloc_below w (.cells #[.int .i64 0, .int .i64 0, .int .i64 0, .int .i64 0, .int .i64 0] 75)
  have hs0 := World.size_alloc w (.cells #[.int .i64 0, .int .i64 0, .int .i64 0, .int .i64 0, .int .i64 0] 75)
  obtain ⟨n, hn⟩ : ∃ n, gs.length = n := ⟨_, rfl⟩
  rw [hn]
  replace hn : Aside (gs.length = n) := hn
  obtain ⟨R, hR⟩ : ∃ R, aclOf gs = R := ⟨_, rfl⟩
  rw [hR]
  replace hR : Aside (aclOf gs = R) := hR
  go_enter Tryd.func16, Tryd.ntmps16
  go_wp2_with fail
  generalize w.alloc (.cells #[.int .i64 0, .int .i64 0, .int .i64 0, .int .i64 0, .int .i64 0] 75) = W0 at *
  go_loopw [4] (fun t4 wr => ∃ i : Nat, i ≤ n ∧ i ≤ 8 ∧ t4 = .int .i64 (i : Int) ∧ Blk wr w.heap.size (ivals (hasTo gs i)) ∧ Below w.heap.size w wr ∧ w.heap.size + 1 ≤ wr.heap.size) (fun t4 _ => n - (Go.RowKit.intOf t4).toNat)
  case atStart => exact ⟨0, by omega, by omega, rfl, hb0, hB0, by omega⟩
  case round =>
    clear hb0 hB0 hs0
    obtain ⟨i, hi, hi8, rfl, hb, hB, hz⟩ := hrel
    by_cases hlt : i < n ∧ i < 8
    · obtain ⟨g, hg⟩ : ∃ g, gs[i]? = some g := ⟨_, List.getElem?_eq_getElem (by rw [hn.out]; exact hlt.1)⟩
      obtain ⟨y, rfl, -, hc2⟩ := h.below hB i g hg
      have hgd : gs.getD i zGr = g := by rw [List.getD_eq_getElem?_getD, hg]; rfl
      have hst : hasTo gs (i + 1) = (hasTo gs i).set (g.m % 5).toNat (1 + wrap64 (g.m.tdiv 5) % 7) := by rw [hasTo, hgd]
      have i1 : (i : Int) < (n : Int) := by omega
      have i2 : (i : Int) < 8 := by omega
      have k1 := w11_any g.m 5 (by omega) (by omega)
      have k2 := w11_any (wrap64 (g.m.tdiv 5)) 7 (by omega) (by omega)
      obtain ⟨k, hk⟩ : ∃ k : Nat, g.m % 5 = (k : Int) := ⟨(g.m % 5).toNat, by omega⟩
      have hk5 : k < 5 := by omega
      have hkn : (g.m % 5).toNat = k := by omega
      obtain ⟨v, hv⟩ : ∃ v : Int, wrap64 (g.m.tdiv 5) % 7 = v := ⟨_, rfl⟩
      have hv7 : 0 ≤ v ∧ v < 7 := by omega
      rw [hk] at k1
      rw [hv] at k2
      rw [hkn, hv] at hst
      clear hk hkn hgd
      replace hv : Aside (wrap64 (g.m.tdiv 5) % 7 = v) := hv
      have hcell : ∃ u, wr.cell? ⟨w.heap.size, k, none⟩ = some u ∧ wr.frozen? ⟨w.heap.size, k, none⟩ = false := by
        obtain ⟨u, hu⟩ : ∃ u, (ivals (hasTo gs i))[k]? = some u := ⟨_, List.getElem?_eq_getElem (by simp [ivals, has_len]; omega)⟩
        exact ⟨u, hb k u hu⟩
      obtain ⟨u, hu, hfz⟩ := hcell
      have hb2 := hb.set k (.int .i64 (1 + v)) (by simp [ivals, has_len]; omega)
      have hB2 : Below w.heap.size w (wr.setCell ⟨w.heap.size, k, none⟩ (.int .i64 (1 + v))) := hB.setCell (p := ⟨w.heap.size, k, none⟩) (Nat.le_refl _) _
      have hz2 : w.heap.size + 1 ≤ (wr.setCell ⟨w.heap.size, k, none⟩ (.int .i64 (1 + v))).heap.size := by simpa using hz
      rw [show (ivals (hasTo gs i)).set k (.int .i64 (1 + v)) = ivals (hasTo gs (i + 1)) by rw [hst]; unfold ivals; rw [List.map_set]] at hb2
      clear hst hb
      go_wp2_with fail
      refine (k1 wr).mono ?_
      rintro e w' ⟨rfl, hw⟩
      replace hw := hw.symm
      subst hw
      go_wp2_with fail
      refine (k2 wr).mono ?_
      rintro e w' ⟨rfl, hw⟩
      replace hw := hw.symm
      subst hw
      go_wp2_with fail
      exact ⟨⟨i + 1, by omega, by omega, by simp, hb2, hB2, hz2⟩, by simp [Go.RowKit.intOf]; omega⟩
    · have hmin : min gs.length 8 = i := by rw [hn.out]; omega
      have hR5 : Aside (aclTo (hasTo gs i) 5 = R) := by rw [← hR.out, aclOf, hasAll, hmin]; exact rfl
      have hHv := has_get gs i
      have hHl := has_len gs i
      obtain ⟨H, hH⟩ : ∃ H, hasTo gs i = H := ⟨_, rfl⟩
      rw [hH] at hb hHv hHl hR5
      clear hH hmin
      have hcase : i = n ∨ (i < n ∧ i = 8) := by omega
      rcases hcase with rfl | ⟨hin, rfl⟩
      all_goals (
        go_wp2_with fail
        go_loopw [6, 7] (fun t6 t7 wq => ∃ k : Nat, k ≤ 5 ∧ t7 = .int .i64 (k : Int) ∧ OwnGr wq (w.heap.size + 1) t6 (aclTo H k) ∧ Below w.heap.size w wq ∧ w.heap.size + 1 ≤ wq.heap.size ∧ Blk wq w.heap.size (ivals H)) (fun _ t7 _ => 5 - (Go.RowKit.intOf t7).toNat)
        case atStart => exact ⟨0, by omega, rfl, OwnR.nil _ _ _ _ _, hB, hz, hb⟩
        case round =>
          clear hb hB hz
          obtain ⟨k, hk, rfl, ho, hB, hz, hb⟩ := hrel
          have hal := acl_len H k
          obtain ⟨ra, rc, hrv, hrle, -, -⟩ := OwnR.slice gr_okT.len ho
          subst hrv
          by_cases hk5 : k < 5
          · by_cases hl4 : (aclTo H k).length < 4
            · obtain ⟨x, hx⟩ : ∃ x, H.getD k 0 = x := ⟨_, rfl⟩
              have hxv := hHv k
              rw [hx] at hxv
              have hcell : wr.cell? ⟨w.heap.size, k, none⟩ = some (.int .i64 x) := by
                refine (hb k (.int .i64 x) ?_).1
                unfold ivals
                rw [List.getElem?_map, ← hx, List.getD_eq_getElem?_getD, List.getElem?_eq_getElem (by omega)]
                rfl
              have hst : aclTo H (k + 1) = if 0 < x ∧ (aclTo H k).length < 4 then aclTo H k ++ [⟨usr k, x⟩] else aclTo H k := by rw [aclTo, hx]
              generalize (aclTo H k).length = m at *
              have i1 : (k : Int) < 5 := by omega
              have i2 : (m : Int) < 4 := by omega
              by_cases hx0 : 0 < x
              · rw [if_pos ⟨hx0, hl4⟩] at hst
                clear hx
                by_cases hk0 : k = 0
                · subst hk0
                  obtain ⟨v2, W2, hap, ho2, hg2⟩ := OwnR.push gr_okT ho hz ⟨usr 0, x⟩ #[.string ⟨#[42]⟩, .int .i64 x] rfl 77 (by have := (acl_len H 0).1; omega)
                  have hb2 := ho.grew_below hz hg2
                  rw [← hst] at ho2
                  have hB2 := hB.trans (hb2.mono (by omega))
                  have hbk := hb.same (hb2.block _ (by omega))
                  have hz2 := Nat.le_trans hz hb2.size
                  clear hst hb
                  go_wp2_with (first | (refine wpList_append rfl _ _ rfl rfl rfl rfl hap ?_) | fail)
                  exact ⟨⟨1, by omega, by simp, ho2, hB2, hz2, hbk⟩, by simp [Go.RowKit.intOf]⟩
                · have hbt := chr_made wr (96 + k) (by omega)
                  have i3 : (0 : Int) < (k : Int) := by omega
                  have hu2 : usr k = chr (96 + k) := if_neg hk0
                  have e1 : IntKind.u8.wrap (97 + (k : Int) - 1) = 96 + (k : Int) := by rw [IntKind.wrap_u8]; omega
                  rw [show ((96 + k : Nat) : Int) = 96 + (k : Int) by omega] at hbt
                  have hcv := hbt.conv
                  have hza := alloc_below wr (.cells #[.int .u8 (96 + (k : Int))] 5)
                  have ho1 := ho.below hza
                  have hz1 := Nat.le_trans hz hza.size
                  obtain ⟨v2, W2, hap, ho2, hg2⟩ := OwnR.push gr_okT ho1 hz1 ⟨usr k, x⟩ #[.string (chr (96 + k)), .int .i64 x] (by rw [hu2]; rfl) 77 (by have := (acl_len H k).1; omega)
                  have hb2 := ho1.grew_below hz1 hg2
                  rw [← hst] at ho2
                  have hb3 : Below (w.heap.size + 1) wr W2 := (hza.mono hz).trans hb2
                  have hB2 := hB.trans (hb3.mono (by omega))
                  have hbk := hb.same (hb3.block _ (by omega))
                  have hz2 := Nat.le_trans hz hb3.size
                  have hcell2 := (hza.cell (World.block_lt_of_cell? _ _ hcell)).trans hcell
                  rw [World.size_alloc] at hap
                  clear hst hb hbt hza ho1 hz1 hg2 hb2 hb3
                  go_wp2_with (first | (refine wpList_append rfl _ _ rfl rfl rfl rfl hap ?_) | fail)
                  exact ⟨⟨k + 1, by omega, by simp, ho2, hB2, hz2, hbk⟩, by simp [Go.RowKit.intOf]; omega⟩
              · rw [if_neg (fun q => hx0 q.1)] at hst
                rw [← hst] at ho
                clear hst hx
                go_wp2_with fail
                exact ⟨⟨k + 1, by omega, by simp, ho, hB, hz, hb⟩, by simp [Go.RowKit.intOf]; omega⟩
            · have h4 : (aclTo H k).length = 4 := by omega
              have hfin := acl_full H h4 (5 - k)
              rw [show k + (5 - k) = 5 by omega] at hfin
              replace hfin : Aside (aclTo H 5 = aclTo H k) := hfin
              have i1 : (k : Int) < 5 := by omega
              generalize (aclTo H k).length = m at *
              have i2 : ¬ (m : Int) < 4 := by omega
              clear h4
              go_wp2_with fail
              go_ret
              exact ⟨_, rfl, by rw [← hR5.out, hfin.out]; exact ho.lower (Nat.le_succ _), hB⟩
          · obtain rfl : k = 5 := by omega
            go_wp2_with fail
            go_ret
            exact ⟨_, rfl, by rw [← hR5.out]; exact ho.lower (Nat.le_succ _), hB⟩)
end Go.Proofs.YtacjfbomjglnjaaDoor

/-! TREES THAT ARE GROWN, in plain words: nodes put upon the first ones, one behind the other; what they come to is a tree. -/
namespace Go.Proofs.YtacjfbomjglnjaaDoor
open Go.RowKit
set_option maxRecDepth 8000
set_option linter.unusedSimpArgs false
set_option linter.unusedVariables false

/-- A way to make a node. -/
structure Mk where
  path : List Int
  dir : Bool
  up : Lab
  acl : List Gr
  rings : Rg
  words : List Int
  by_ : Lab
def mkPath (m : Mk) : ByteArray := pathB (namesOf m.path)
def mkN (d : Nod) (m : Mk) : Nod :=
  if m.dir = true then ⟨mkPath m, true, joinL d.label (goodL m.up), aclOf m.acl, 0, 0, 0, 0, [], goodL m.by_⟩
  else ⟨mkPath m, false, d.label, aclOf m.acl, (goodR m.rings).a, (goodR m.rings).b, (goodR m.rings).c, (goodR m.rings).g, m.words.take 16, goodL m.by_⟩
def growStep (l : List Nod) (m : Mk) : List Nod :=
  if eqs (mkPath m) slashS = true then l else match findN l (parentOf (mkPath m)) with
  | none => l
  | some d => if d.dir = true ∧ findN l (mkPath m) = none then putN l (mkN d m) else l
def growN (ts : List Lab) (ms : List Mk) : List Nod := (ms.take 14).foldl growStep (firstN ((ts.take 4).map goodL))
theorem mkN_path (d : Nod) (m : Mk) : (mkN d m).path = mkPath m := by unfold mkN; split <;> rfl
theorem mkPath_names (m : Mk) : Names (namesOf m.path) := namesOf_names m.path
theorem rov_join {a b : Lab} (ha : GL a) (hb : GL b) : rov (joinL a b) a = true ∧ GL (joinL a b) := by
  obtain ⟨x, rfl, hx⟩ := ha.nl
  obtain ⟨y, rfl, hy⟩ := hb.nl
  rw [join_lab hx hy]
  refine ⟨?_, lab_GL (join_ok hx hy)⟩
  rw [rov_ov (join_ok hx hy) hx, ov_iff (join_ok hx hy) hx]
  show (x.join y).join x = x.join y
  rw [join_comm (x.join y) x, ← join_assoc, join_self]
theorem rov_self {a : Lab} (ha : GL a) : rov a a = true := by
  obtain ⟨x, rfl, hx⟩ := ha.nl
  rw [rov_ov hx hx, ov_iff hx hx]
  exact over_refl x
theorem mkN_ok {d : Nod} (hd : nodC d = 0) (m : Mk) (hs : mkPath m ≠ slashS) : nodC (mkN d m) = 0 ∧ rov (mkN d m).label d.label = true ∧ ((mkN d m).dir = false → (mkN d m).label = d.label) := by
  obtain ⟨_, hg, _⟩ := nodC_zero.1 hd
  have hp : checkOf (mkPath m) = 0 := check_names (mkPath_names m)
  unfold mkN
  cases m.dir
  · simp only [Bool.false_eq_true, if_false]
    refine ⟨nodC_zero.2 ⟨hp, hg, good_GL _, aclOf_ok _, fun h => (by cases h), fun _ => ⟨hs, goodR_ok m.rings, ?_⟩⟩, rov_self hg, fun _ => by first | rfl | trivial⟩
    show (m.words.take 16).length ≤ 16
    rw [List.length_take]
    omega
  · simp only [if_true]
    obtain ⟨h1, h2⟩ := rov_join hg (good_GL m.up)
    exact ⟨nodC_zero.2 ⟨hp, h2, good_GL _, aclOf_ok _, fun _ => ⟨rfl, rfl⟩, fun h => (by cases h)⟩, h1, fun h => (by cases h)⟩
theorem step_tree {l : List Nod} (h : Tree l) (m : Mk) : Tree (growStep l m) := by
  unfold growStep
  by_cases hs : eqs (mkPath m) slashS = true
  · rw [if_pos hs]
    exact h
  · rw [if_neg hs]
    have hs' : mkPath m ≠ slashS := fun e => hs (eqs_iff.2 e)
    cases hf : findN l (parentOf (mkPath m)) with
    | none => exact h
    | some d =>
      show Tree (if d.dir = true ∧ findN l (mkPath m) = none then putN l (mkN d m) else l)
      by_cases hc : d.dir = true ∧ findN l (mkPath m) = none
      · rw [if_pos hc]
        obtain ⟨hd, hp⟩ := find_some hf
        obtain ⟨k1, k2, k3⟩ := mkN_ok (h.ok d hd) m hs'
        refine h.put (d := d) k1 (by rw [mkN_path]; exact hs') (fun x hx => ?_) hd (by rw [mkN_path]; exact hp) hc.1 k2 k3
        rw [mkN_path]
        exact find_none hc.2 x hx
      · rw [if_neg hc]
        exact h
theorem fold_tree : ∀ (ms : List Mk) {l : List Nod}, Tree l → Tree (ms.foldl growStep l)
  | [], _, h => h
  | m :: r, _, h => fold_tree r (step_tree h m)
theorem grow_tree (ts : List Lab) (ms : List Mk) : Tree (growN ts ms) := by
  refine fold_tree _ (first_tree (fun t ht => ?_) ?_)
  · obtain ⟨u, _, rfl⟩ := List.mem_map.1 ht
    exact good_GL u
  · rw [List.length_map, List.length_take]
    omega
/-! The names that grown nodes have. -/
def OkName (n : ByteArray) : Prop := (∃ x, n = nameOf x) ∨ ∃ k, k < 10 ∧ n = nmK k
def OkPath (p : ByteArray) : Prop := ∃ ns, p = pathB ns ∧ Names ns ∧ ∀ n ∈ ns, OkName n
theorem ok_slash : OkPath slashS := ⟨[], pathB_nil.symm, ⟨by simp, fun n hn => by cases hn⟩, fun n hn => by cases hn⟩
theorem ok_mk (m : Mk) : OkPath (mkPath m) := ⟨_, rfl, mkPath_names m, fun n hn => by
  unfold namesOf at hn
  obtain ⟨x, _, rfl⟩ := List.mem_map.1 hn
  exact .inl ⟨x, rfl⟩⟩
theorem ok_dir {k : Nat} (hk : k < 10) (t : Lab) : OkPath (dirN k t).path := ⟨[nmK k], dir_path k t, nmK_names hk, fun n hn => by
  rw [List.mem_singleton] at hn
  exact .inr ⟨k, hk, hn⟩⟩
theorem first_paths {ts : List Lab} (hn : ts.length < 10) : ∀ x ∈ firstN ts, OkPath x.path := fun x hx => by
  have hl := dist_len ts ts.length
  rcases first_mem hx with rfl | ⟨k, t, hk, ht, rfl⟩
  · exact ok_slash
  · exact ok_dir (by omega) t
theorem step_paths {l : List Nod} (h : ∀ x ∈ l, OkPath x.path) (m : Mk) : ∀ x ∈ growStep l m, OkPath x.path := fun x hx => by
  unfold growStep at hx
  split at hx
  · exact h x hx
  · split at hx
    · exact h x hx
    · split at hx
      · rcases put_mem.1 hx with rfl | ⟨hx, _⟩
        · rw [mkN_path]
          exact ok_mk m
        · exact h x hx
      · exact h x hx
theorem fold_paths : ∀ (ms : List Mk) {l : List Nod}, (∀ x ∈ l, OkPath x.path) → ∀ x ∈ ms.foldl growStep l, OkPath x.path
  | [], _, h => h
  | m :: r, _, h => fold_paths r (step_paths h m)
theorem grow_paths (ts : List Lab) (ms : List Mk) : ∀ x ∈ growN ts ms, OkPath x.path := fold_paths _ (first_paths (by rw [List.length_map, List.length_take]; omega))
def zzS : ByteArray := ⟨#[122, 122]⟩
def noS : ByteArray := ⟨#[110, 111]⟩
theorem okName_head {n : ByteArray} (h : OkName n) : ∃ c r, bytes n = c :: r ∧ (97 ≤ c.toNat ∧ c.toNat ≤ 101 ∨ c.toNat = 108) := by
  rcases h with ⟨x, rfl⟩ | ⟨k, hk, rfl⟩
  · have := letter_lo x
    refine ⟨UInt8.ofNat (letterOf x), List.replicate (x % 3).toNat (UInt8.ofNat (letterOf x)), by simp [bytes, nameOf, List.replicate_succ], .inl ?_⟩
    rw [UInt8.toNat_ofNat']
    omega
  · exact ⟨108, [UInt8.ofNat (48 + k)], rfl, .inr rfl⟩
theorem zz_not : ¬ OkName zzS := fun h => by
  obtain ⟨c, r, hb, hc⟩ := okName_head h
  have : (bytes zzS) = [122, 122] := rfl
  rw [this] at hb
  injection hb with h1 h2
  subst h1
  revert hc
  decide
theorem no_not : ¬ OkName noS := fun h => by
  obtain ⟨c, r, hb, hc⟩ := okName_head h
  have : (bytes noS) = [110, 111] := rfl
  rw [this] at hb
  injection hb with h1 h2
  subst h1
  revert hc
  decide
/-- A path that goes through another name is none of them. -/
theorem path_not {ns : List ByteArray} (hf : ∀ n ∈ ns, Flat n ∧ 1 ≤ n.size) {b : ByteArray} (hb : b ∈ ns) (hn : ¬ OkName b) : ¬ OkPath (pathB ns) := fun h => by
  obtain ⟨ms, e, hm, hk⟩ := h
  have h1 := parts_path hf
  have h2 := parts_path hm.flat
  rw [e, h2] at h1
  subst h1
  exact hn (hk b hb)
end Go.Proofs.YtacjfbomjglnjaaDoor

/-! NODES, LABELS AND WAYS TO MAKE NODES THAT CAME IN, in rows. -/
namespace Go.Proofs.YtacjfbomjglnjaaDoor
open Go.ChangeShapes Go.WideShapes Go.ChangeAt Go.RowKit
set_option maxRecDepth 8000
set_option linter.unusedVariables false
set_option linter.unusedSimpArgs false

def icell (x : Int) : List Value := [.int .i64 x]
/-- A way to make a node, and where its rows lie. -/
structure PM where
  m : Mk
  pa : Option Addr
  pc : Nat
  aa : Option Addr
  ca : Nat
  wa : Option Addr
  cw : Nat
def PM.cs (x : PM) : List Value := [.slice x.pa x.m.path.length x.pc, .bool x.m.dir, .int .i64 x.m.up.s, .int .i64 x.m.up.c, .int .i64 x.m.up.i, .int .i64 x.m.up.k, .slice x.aa x.m.acl.length x.ca, .int .i64 x.m.rings.a, .int .i64 x.m.rings.b, .int .i64 x.m.rings.c, .int .i64 x.m.rings.g, .slice x.wa x.m.words.length x.cw, .int .i64 x.m.by_.s, .int .i64 x.m.by_.c, .int .i64 x.m.by_.i, .int .i64 x.m.by_.k]
structure PM.At (W : World) (x : PM) : Prop where
  p : RowAt 1 icell W x.pa x.m.path
  g : GrsAt W x.aa x.m.acl
  w : WrdsAt W x.wa x.m.words
  f : ∀ q ∈ x.m.path, -9223372036854775808 ≤ q ∧ q ≤ 9223372036854775807
theorem PM.At.below {W W' : World} {x : PM} (h : x.At W) (b : Below W.heap.size W W') : x.At W' := ⟨h.p.below (fun _ => rfl) b, h.g.below b, h.w.below b, h.f⟩
structure RowM (W : World) (a : Option Addr) (l : List PM) : Prop where
  r : RowAt 16 PM.cs W a l
  p : ∀ x ∈ l, x.At W
theorem RowM.below {W W' : World} {a : Option Addr} {l : List PM} (h : RowM W a l) (b : Below W.heap.size W W') : RowM W' a l := ⟨h.r.below (fun _ => rfl) b, fun x hx => (h.p x hx).below b⟩
section
variable {H : Type} {enc : TypeId × Value → H} {W : World}
theorem undMk : Tryd.prog.underlying 42 = some (.struct (Tryd.prog.fieldsOf 42)) := by kernel_rfl
theorem cMk : Tryd.prog.cellsOf 42 = 16 := by kernel_rfl
theorem cInts : Tryd.prog.cellsOf 40 = 1 := by kernel_rfl
theorem reads_ic {base : Nat} {sp : Nat → Bool} {held : Bool} : Reads enc W base sp held 3 fun cs => ∃ x : Int, cs = icell x ∧ (-9223372036854775808 ≤ x ∧ x ≤ 9223372036854775807) := fun n cs x h => by
  obtain ⟨m, e, hw⟩ := reads_int Tryd.underlying3 n cs x h
  exact ⟨m, e, int_fits hw⟩
theorem reads_mk : Reads enc W 0 (fun _ => true) true 42 fun cs => ∃ x : PM, cs = x.cs ∧ x.At W := fun fu cs x h => by
  have hl := struct_len undMk cMk h
  obtain ⟨ps, pa, pc, e0, hp, hpq, _, _⟩ := read_field (i := 0) (ty := 40) (off := 0) undMk (by kernel_rfl) cInts (reads_rows (f := icell) Tryd.underlying40 cInt reads_ic cInts) h
  obtain ⟨di, e1⟩ := read_field (i := 1) (ty := 4) (off := 1) undMk (by kernel_rfl) cBool (reads_bool Tryd.underlying4) h
  obtain ⟨la, e2, _⟩ := read_field (i := 2) (ty := 26) (off := 2) undMk (by kernel_rfl) cLab reads_lab h
  obtain ⟨gs, aa, ca, e3, hg, hgq, _, _⟩ := read_field (i := 3) (ty := 27) (off := 6) undMk (by kernel_rfl) cGrs (reads_rows (f := gcells) Tryd.underlying27 cGr reads_gr cGrs) h
  obtain ⟨r1, r2, r3, r4, e4⟩ := read_field (i := 4) (ty := 29) (off := 7) undMk (by kernel_rfl) cRi reads_ri h
  obtain ⟨ws, wa, cw, e5, hv, hvq, hno, hle⟩ := read_field (i := 5) (ty := 30) (off := 11) undMk (by kernel_rfl) cWds (reads_rows (f := wcell) Tryd.underlying30 cI64 reads_wd cWds) h
  obtain ⟨lb, e6, _⟩ := read_field (i := 6) (ty := 26) (off := 12) undMk (by kernel_rfl) cLab reads_lab h
  match cs, hl with
  | [v0, v1, v2, v3, v4, v5, v6, v7, v8, v9, v10, v11, v12, v13, v14, v15], _ =>
    simp [lcells] at e0 e1 e2 e3 e4 e5 e6
    obtain ⟨rfl, rfl, rfl, rfl⟩ := e2
    obtain ⟨rfl, rfl, rfl, rfl⟩ := e4
    obtain ⟨rfl, rfl, rfl, rfl⟩ := e6
    subst e0 e1 e3 e5
    exact ⟨⟨⟨ps, di, la, gs, ⟨r1, r2, r3, r4⟩, ws, lb⟩, pa, pc, aa, ca, wa, cw⟩, rfl, ⟨hp, RowAt.grs hg, RowAt.wrds hv, hpq⟩⟩
theorem open_mks {n : Nat} {a : Option Addr} {len cap : Nat} {x : DataW H × List MemPlace} (h : DataW.trod enc Tryd.prog W 0 (fun _ => true) true n 24 [.slice a len cap] = some x) : ∃ l, l.length = len ∧ RowM W a l := by
  obtain ⟨l, hl, hc, hf, _⟩ := open_rows (f := PM.cs) (q := PM.At W) Tryd.underlying24 cMk reads_mk h
  exact ⟨l, hl, ⟨hc, hf⟩⟩
theorem reads_pn : Reads enc W 0 (fun _ => true) true 32 fun cs => ∃ x : PN, cs = x.cs ∧ (x.At W ∧ x.n.Fits) := fun fu cs x h => by
  obtain ⟨n, aa, ca, wa, cw, he, hf, hg, hw, _, _⟩ := reads_nd fu cs x h
  refine ⟨⟨n, aa, ca, wa, cw⟩, ?_, ⟨hg, hw⟩, hf⟩
  injection he with he
  have := congrArg Array.toList he
  simpa [PN.cs, nclT] using this
theorem open_nds {n : Nat} {a : Option Addr} {len cap : Nat} {x : DataW H × List MemPlace} (h : DataW.trod enc Tryd.prog W 0 (fun _ => true) true n 22 [.slice a len cap] = some x) : ∃ l : List PN, l.length = len ∧ RowN W a l ∧ ∀ x ∈ l, x.n.Fits := by
  obtain ⟨l, hl, hc, hf, _⟩ := open_rows (f := PN.cs) (q := fun x => x.At W ∧ x.n.Fits) Tryd.underlying22 cNd reads_pn h
  exact ⟨l, hl, ⟨hc, fun x hx => (hf x hx).1⟩, fun x hx => (hf x hx).2⟩
theorem open_lbs {n : Nat} {a : Option Addr} {len cap : Nat} {x : DataW H × List MemPlace} (h : DataW.trod enc Tryd.prog W 0 (fun _ => true) true n 23 [.slice a len cap] = some x) : ∃ l : List Lab, l.length = len ∧ RowAt 4 lcells W a l := by
  obtain ⟨l, hl, hc, hf, _⟩ := open_rows (f := lcells) (q := Lab.fits) Tryd.underlying23 cLab reads_lab h
  exact ⟨l, hl, hc⟩
theorem undLb : Tryd.prog.underlying 26 = some (.struct (Tryd.prog.fieldsOf 26)) := by kernel_rfl
theorem open_lb {r : Reach} {b0 : Nat} {v : Value} {d : DataW H} {p : List MemPlace} (hv : Value.okWide Tryd.prog W r b0 26 v) (h : DataW.Trod enc Tryd.prog W 0 (fun _ => true) true 26 v d p) : ∃ l : Lab, v = l.v := by
  obtain ⟨cs, rfl, l, rfl, _⟩ := open_struct undLb reads_lab hv h
  exact ⟨l, rfl⟩
theorem open_is {n : Nat} {a : Option Addr} {len cap : Nat} {x : DataW H × List MemPlace} (h : DataW.trod enc Tryd.prog W 0 (fun _ => true) true n 40 [.slice a len cap] = some x) : ∃ l : List Int, l.length = len ∧ RowAt 1 icell W a l ∧ ∀ q ∈ l, -9223372036854775808 ≤ q ∧ q ≤ 9223372036854775807 := by
  obtain ⟨l, hl, hc, hf, _⟩ := open_rows (f := icell) (q := fun q => -9223372036854775808 ≤ q ∧ q ≤ 9223372036854775807) Tryd.underlying40 cInt reads_ic h
  exact ⟨l, hl, hc, hf⟩
end
end Go.Proofs.YtacjfbomjglnjaaDoor

/-! Same: the document's own (donjonref10). -/
namespace Go.Proofs.YtacjfbomjglnjaaDoor
open Go.RowKit
set_option maxRecDepth 8000
set_option linter.unusedSimpArgs false
set_option linter.unusedVariables false

def grEq (x y : Gr) : Bool := eqs x.u y.u && x.m == y.m
theorem grEq_iff {x y : Gr} : grEq x y = true ↔ x = y := by
  cases x; cases y
  unfold grEq
  simp only [Bool.and_eq_true, eqs_iff, beq_iff_eq, Gr.mk.injEq]
/-- Rows alike, place by place. -/
def allEq {α : Type} (f : α → α → Bool) : List α → List α → Bool
  | [], [] => true
  | x :: r, y :: s => f x y && allEq f r s
  | _, _ => false
theorem allEq_iff {α : Type} {f : α → α → Bool} (hf : ∀ x y, f x y = true ↔ x = y) : ∀ l m : List α, allEq f l m = true ↔ l = m
  | [], [] => by simp [allEq]
  | [], _ :: _ => by simp [allEq]
  | _ :: _, [] => by simp [allEq]
  | x :: r, y :: s => by simp [allEq, hf, allEq_iff hf r s]
theorem allEq_drop {α : Type} {f : α → α → Bool} {l m : List α} {i : Nat} {x y : α} (hx : l[i]? = some x) (hy : m[i]? = some y) : allEq f (l.drop i) (m.drop i) = (f x y && allEq f (l.drop (i + 1)) (m.drop (i + 1))) := by
  have h1 := (List.getElem?_eq_some_iff.1 hx)
  have h2 := (List.getElem?_eq_some_iff.1 hy)
  rw [List.drop_eq_getElem_cons h1.1, List.drop_eq_getElem_cons h2.1, h1.2, h2.2]
  rfl
theorem allEq_end {α : Type} {f : α → α → Bool} {l m : List α} {i : Nat} (h1 : l.length ≤ i) (h2 : m.length ≤ i) : allEq f (l.drop i) (m.drop i) = true := by
  rw [List.drop_eq_nil_of_le h1, List.drop_eq_nil_of_le h2]
  rfl
def ringsEq (x y : Nod) : Bool := x.r1 == y.r1 && (x.r2 == y.r2 && (x.r3 == y.r3 && x.gates == y.gates))
/-- What stands outside the rows is alike. -/
def headEq (x y : Nod) : Bool := eqs x.path y.path && x.dir == y.dir && labEq x.label y.label && labEq x.by_ y.by_ && ringsEq x y && (x.acl.length == y.acl.length) && (x.words.length == y.words.length)
def nodEq (x y : Nod) : Bool := headEq x y && allEq grEq x.acl y.acl && allEq (fun a b : Int => a == b) x.words y.words
theorem nodEq_iff {x y : Nod} : nodEq x y = true ↔ x = y := by
  unfold nodEq headEq ringsEq
  simp only [Bool.and_eq_true, allEq_iff (fun _ _ => grEq_iff), allEq_iff (fun a b : Int => beq_iff_eq), eqs_iff, labEq_iff, beq_iff_eq]
  cases x; cases y
  simp only [Nod.mk.injEq]
  constructor
  · rintro ⟨⟨⟨⟨⟨⟨⟨⟨h1, h2⟩, h3⟩, h4⟩, h5, h6, h7, h8⟩, h9⟩, h10⟩, h11⟩, h12⟩
    exact ⟨h1, h2, h3, h11, h5, h6, h7, h8, h12, h4⟩
  · rintro ⟨h1, h2, h3, h11, h5, h6, h7, h8, h12, h4⟩
    exact ⟨⟨⟨⟨⟨⟨⟨⟨h1, h2⟩, h3⟩, h4⟩, h5, h6, h7, h8⟩, by rw [h11]⟩, by rw [h12]⟩, h11⟩, h12⟩
theorem run_neq_gr (x y : Gr) (w : World) : (binOp .neq 77 (.agg #[.string x.u, .int .i64 x.m]) (.agg #[.string y.u, .int .i64 y.m])).run Tryd.prog w = .ok (.bool (!grEq x y)) w := by
  have e : grEq x y = (x.u.toList == y.u.toList && x.m == y.m) := rfl
  rw [e]
  go_simp
  repeat' split
  all_goals simp_all
theorem run_neq_rings (x y : Nod) (w : World) : (binOp .neq 29 (.agg #[.int .i64 x.r1, .int .i64 x.r2, .int .i64 x.r3, .int .i64 x.gates]) (.agg #[.int .i64 y.r1, .int .i64 y.r2, .int .i64 y.r3, .int .i64 y.gates])).run Tryd.prog w = .ok (.bool (!ringsEq x y)) w := by
  have e : ringsEq x y = (x.r1 == y.r1 && (x.r2 == y.r2 && (x.r3 == y.r3 && x.gates == y.gates))) := rfl
  rw [e]
  go_simp
  repeat' split
  all_goals simp_all
/-- Two nodes boxed, and their rows. -/
structure TwoN (w W : World) (x y : Nod) (aa : Option Addr) (ca : Nat) (wa : Option Addr) (cw : Nat) (ab : Option Addr) (cb : Nat) (wb : Option Addr) (cd : Nat) : Prop where
  bx : NBox W w.heap.size x aa ca wa cw
  bz : NBox W (w.heap.size + 1) y ab cb wb cd
  gx : GrsAt W aa x.acl
  gz : GrsAt W ab y.acl
  wx : WrdsAt W wa x.words
  wz : WrdsAt W wb y.words
  bl : Below w.heap.size w W
section
variable {w W : World} {x y : Nod} {aa : Option Addr} {ca : Nat} {wa : Option Addr} {cw : Nat} {ab : Option Addr} {cb : Nat} {wb : Option Addr} {cd : Nat}
theorem TwoN.drew (h : TwoN w W x y aa ca wa cw ab cb wb cd) : TwoN w W.drew x y aa ca wa cw ab cb wb cd := ⟨h.bx, h.bz, h.gx, h.gz, h.wx, h.wz, h.bl.drew⟩
theorem two_alloc (hx : GrsAt w aa x.acl) (hy : GrsAt w ab y.acl) (hw : WrdsAt w wa x.words) (hz : WrdsAt w wb y.words) : TwoN w ((w.alloc (.cells (ncells x aa ca wa cw) 32)).alloc (.cells (ncells y ab cb wb cd) 32)) x y aa ca wa cw ab cb wb cd := by
  have b1 := alloc_below w (.cells (ncells x aa ca wa cw) 32)
  have n1 := nbox_alloc w x aa ca wa cw 32
  have s1 := World.size_alloc w (.cells (ncells x aa ca wa cw) 32)
  generalize w.alloc (.cells (ncells x aa ca wa cw) 32) = W1 at *
  have b2 := alloc_below W1 (.cells (ncells y ab cb wb cd) 32)
  have n2 := nbox_alloc W1 y ab cb wb cd 32
  rw [s1] at n2
  have hB := Below.then b1 b2
  exact ⟨n1.keep (b2.mono (by omega)), n2, hx.below hB, hy.below hB, hw.below hB, hz.below hB, hB⟩
end
theorem gr_at {W : World} {a : Option Addr} {l : List Gr} {i : Nat} {q : Gr} {y : Addr} (h : GrsAt W a l) (hy : a = some y) (hq : l[i]? = some q) : W.cell? (y.add (i * 2)) = some (.string q.u) ∧ W.cell? ⟨(y.add (i * 2)).block, (y.add (i * 2)).off + 1, none⟩ = some (.int .i64 q.m) := by
  obtain ⟨y', hy', h1, h2⟩ := h i q hq
  rw [hy] at hy'
  obtain rfl := Option.some.inj hy'
  exact ⟨h1, h2⟩

set_option maxRecDepth 20000 in
set_option maxHeartbeats 8000000 in
theorem rsame_any (x y : Nod) (aa : Option Addr) (ca : Nat) (wa : Option Addr) (cw : Nat) (ab : Option Addr) (cb : Nat) (wb : Option Addr) (cd : Nat) (hx1 : x.acl.length ≤ 1000000) (hx2 : x.words.length ≤ 1000000) (w : World) (gx : GrsAt w aa x.acl) (gz : GrsAt w ab y.acl) (wx : WrdsAt w wa x.words) (wz : WrdsAt w wb y.words) :
    Calls Tryd.prog 25 #[x.v aa ca wa cw, y.v ab cb wb cd] w fun e w' => e = .returned (.bool (nodEq x y)) ∧ Below w.heap.size w w' := by
  have h := two_alloc (cw := cw) (ca := ca) (cb := cb) (cd := cd) gx gz wx wz
  unfold ncells at h
  clear gx gz wx wz
  obtain ⟨r, hr⟩ : ∃ r, nodEq x y = r := ⟨_, rfl⟩
  rw [hr]
  have kL := run_neq_lab
  have kR := run_neq_rings
  have hno : headEq x y = false → r = false := fun k => by rw [← hr, nodEq, k]; rfl
  have hyes : headEq x y = true → Aside (r = (allEq grEq (x.acl.drop 0) (y.acl.drop 0) && allEq (fun a b : Int => a == b) (x.words.drop 0) (y.words.drop 0))) := fun k => by rw [← hr, nodEq, k]; exact rfl
  have hhead : headEq x y = (eqs x.path y.path && x.dir == y.dir && labEq x.label y.label && labEq x.by_ y.by_ && ringsEq x y && (x.acl.length == y.acl.length) && (x.words.length == y.words.length)) := rfl
  clear hr
  go_enter Tryd.func25, Tryd.ntmps25
  go_upto_region 1 with fail
  generalize ((w.alloc (.cells #[.string x.path, .bool x.dir, .int .i64 x.label.s, .int .i64 x.label.c, .int .i64 x.label.i, .int .i64 x.label.k, .slice aa x.acl.length ca, .int .i64 x.r1, .int .i64 x.r2, .int .i64 x.r3, .int .i64 x.gates, .slice wa x.words.length cw, .int .i64 x.by_.s, .int .i64 x.by_.c, .int .i64 x.by_.i, .int .i64 x.by_.k] 32)).alloc (.cells #[.string y.path, .bool y.dir, .int .i64 y.label.s, .int .i64 y.label.c, .int .i64 y.label.i, .int .i64 y.label.k, .slice ab y.acl.length cb, .int .i64 y.r1, .int .i64 y.r2, .int .i64 y.r3, .int .i64 y.gates, .slice wb y.words.length cd, .int .i64 y.by_.s, .int .i64 y.by_.c, .int .i64 y.by_.i, .int .i64 y.by_.k] 32)) = W at *
  obtain ⟨nb, hnb⟩ : ∃ nb, (!headEq x y) = nb := ⟨_, rfl⟩
  have hnb : Aside ((!headEq x y) = nb) := hnb
  go_cut [57] from 7 (fun s57 wc => s57 = .bool nb ∧ wc = W)
  case first =>
    obtain ⟨⟨a0, a1, a2, a3, a4, a5, a6, a7, a8, a9, a10, a11, a12, a13, a14, a15⟩, ⟨b0, b1, b2, b3, b4, b5, b6, b7, b8, b9, b10, b11, b12, b13, b14, b15⟩, -, -, -, -, -⟩ := h
    clear hno hyes
    cases e0 : eqs x.path y.path
    case false =>
      have f0 : (x.path.toList == y.path.toList) = false := by exact e0
      have hh : Aside (headEq x y = false) := by
        rw [hhead]
        simp only [e0, Bool.and_false, Bool.false_and]
        exact trivial
      clear hhead
      go_wp2_with fail
      go_meet
      exact ⟨by rw [← hnb.out, hh.out]; rfl, rfl⟩
    have f0 : (x.path.toList == y.path.toList) = true := by exact e0
    cases e1 : (x.dir == y.dir)
    case false =>
      have f1 : (x.dir != y.dir) = true := by simp only [bne, e1]; rfl
      have hh : Aside (headEq x y = false) := by
        rw [hhead]
        simp only [e1, Bool.and_false, Bool.false_and]
        exact trivial
      clear hhead
      go_wp2_with fail
      go_meet
      exact ⟨by rw [← hnb.out, hh.out]; rfl, rfl⟩
    have f1 : (x.dir != y.dir) = false := by simp only [bne, e1]; rfl
    cases e2 : labEq x.label y.label
    case false =>
      have hh : Aside (headEq x y = false) := by
        rw [hhead]
        simp only [e2, Bool.and_false, Bool.false_and]
        exact trivial
      clear hhead
      go_wp2_with fail
      go_meet
      exact ⟨by rw [← hnb.out, hh.out]; rfl, rfl⟩
    cases e3 : labEq x.by_ y.by_
    case false =>
      have hh : Aside (headEq x y = false) := by
        rw [hhead]
        simp only [e3, Bool.and_false, Bool.false_and]
        exact trivial
      clear hhead
      go_wp2_with fail
      go_meet
      exact ⟨by rw [← hnb.out, hh.out]; rfl, rfl⟩
    cases e4 : ringsEq x y
    case false =>
      have hh : Aside (headEq x y = false) := by
        rw [hhead]
        simp only [e4, Bool.and_false, Bool.false_and]
        exact trivial
      clear hhead
      go_wp2_with fail
      go_meet
      exact ⟨by rw [← hnb.out, hh.out]; rfl, rfl⟩
    cases e5 : (x.acl.length == y.acl.length)
    case false =>
      have f5 : ((x.acl.length : Int) != (y.acl.length : Int)) = true := by
        simp at e5 ⊢
        omega
      have hh : Aside (headEq x y = false) := by
        rw [hhead]
        simp only [e5, Bool.and_false, Bool.false_and]
        exact trivial
      clear hhead
      go_wp2_with fail
      go_meet
      exact ⟨by rw [← hnb.out, hh.out]; rfl, rfl⟩
    have f5 : ((x.acl.length : Int) != (y.acl.length : Int)) = false := by
      simp at e5 ⊢
      omega
    cases e6 : (x.words.length == y.words.length)
    case false =>
      have f6 : ((x.words.length : Int) != (y.words.length : Int)) = true := by
        simp at e6 ⊢
        omega
      have hh : Aside (headEq x y = false) := by
        rw [hhead]
        simp only [e6, Bool.and_false, Bool.false_and]
        exact trivial
      clear hhead
      go_wp2_with fail
      go_meet
      exact ⟨by rw [← hnb.out, hh.out]; rfl, rfl⟩
    have f6 : ((x.words.length : Int) != (y.words.length : Int)) = false := by
      simp at e6 ⊢
      omega
    have hh : Aside (headEq x y = true) := by
      rw [hhead]
      simp only [e0, e1, e2, e3, e4, e5, e6, Bool.and_true]
      exact trivial
    clear hhead
    go_wp2_with fail
    go_meet
    exact ⟨by rw [← hnb.out, hh.out]; rfl, rfl⟩
  case rest =>
  obtain ⟨rfl, rfl⟩ := hcut
  clear kL kR
  cases nb
  case true =>
    have hh : headEq x y = false := by have := hnb.out; simpa using this
    obtain rfl := hno hh
    clear hno hyes hhead hh hnb
    go_wp2_with fail
    go_ret
    exact ⟨rfl, h.bl⟩
  case false =>
    have hh : headEq x y = true := by have := hnb.out; simpa using this
    have hr0 := hyes hh
    have hl : x.acl.length = y.acl.length ∧ x.words.length = y.words.length := by
      rw [hhead] at hh
      simp only [Bool.and_eq_true, beq_iff_eq] at hh
      exact ⟨hh.1.2, hh.2⟩
    clear hno hyes hhead hh hnb
    obtain ⟨la, hla⟩ : ∃ la, x.acl.length = la := ⟨_, rfl⟩
    obtain ⟨lw, hlw⟩ : ∃ lw, x.words.length = lw := ⟨_, rfl⟩
    have hla2 : y.acl.length = la := by omega
    have hlw2 : y.words.length = lw := by omega
    have hA : Aside (x.acl.length = la ∧ y.acl.length = la ∧ x.words.length = lw ∧ y.words.length = lw) := ⟨hla, hla2, hlw, hlw2⟩
    have hala : la ≤ 1000000 := by omega
    have halw : lw ≤ 1000000 := by omega
    obtain ⟨R2, hR2⟩ : ∃ R2, allEq (fun a b : Int => a == b) (x.words.drop 0) (y.words.drop 0) = R2 := ⟨_, rfl⟩
    rw [hR2] at hr0
    have hR2 : Aside (R2 = allEq (fun a b : Int => a == b) (x.words.drop 0) (y.words.drop 0)) := hR2.symm
    clear hl hla hlw hla2 hlw2 hx1 hx2
    have kG := run_neq_gr
    go_wp2_with fail
    go_loopw [5] (fun t5 wr => ∃ i : Nat, i ≤ la ∧ t5 = .int .i64 (i : Int) ∧ TwoN w wr x y aa ca wa cw ab cb wb cd ∧ Aside (r = (allEq grEq (x.acl.drop i) (y.acl.drop i) && R2))) (fun t5 _ => la - (Go.RowKit.intOf t5).toNat)
    case atStart => exact ⟨0, by omega, rfl, h, hr0⟩
    case round =>
      obtain ⟨i, hi, rfl, h, hall⟩ := hrel
      clear hr0
      have z6 : wr.cell? ⟨w.heap.size, 6, none⟩ = some (.slice aa la ca) := by
        have := h.bx.2.2.2.2.2.2.1
        rw [hA.out.1] at this
        exact this
      have y6 : wr.cell? ⟨w.heap.size + 1, 6, none⟩ = some (.slice ab la cb) := by
        have := h.bz.2.2.2.2.2.2.1
        rw [hA.out.2.1] at this
        exact this
      by_cases hlt : i < la
      · obtain ⟨q, hq⟩ : ∃ q, x.acl[i]? = some q := ⟨_, List.getElem?_eq_getElem (by rw [hA.out.1]; exact hlt)⟩
        obtain ⟨p, hp⟩ : ∃ p, y.acl[i]? = some p := ⟨_, List.getElem?_eq_getElem (by rw [hA.out.2.1]; exact hlt)⟩
        obtain ⟨u, rfl, c1, c2⟩ := h.gx i q hq
        obtain ⟨v, rfl, d1, d2⟩ := h.gz i p hp
        rw [allEq_drop hq hp] at hall
        clear hq hp
        have hi1 : (i : Int) < (la : Int) := by omega
        have hS0 : (fun W : World => W.cell? ⟨w.heap.size, 6, none⟩ = some (.slice (some u) la ca) ∧ W.cell? ⟨w.heap.size + 1, 6, none⟩ = some (.slice (some v) la cb) ∧ W.cell? (u.add (i * 2)) = some (.string q.u) ∧ W.cell? ⟨(u.add (i * 2)).block, (u.add (i * 2)).off + 1, none⟩ = some (.int .i64 q.m) ∧ W.cell? (v.add (i * 2)) = some (.string p.u) ∧ W.cell? ⟨(v.add (i * 2)).block, (v.add (i * 2)).off + 1, none⟩ = some (.int .i64 p.m)) wr.drew := ⟨z6, y6, c1, c2, d1, d2⟩
        have h' := h.drew
        go_wp2_with fail
        clear z6 y6 c1 c2 d1 d2 h
        refine wp_region_held_drew (S := (fun W : World => W.cell? ⟨w.heap.size, 6, none⟩ = some (.slice (some u) la ca) ∧ W.cell? ⟨w.heap.size + 1, 6, none⟩ = some (.slice (some v) la cb) ∧ W.cell? (u.add (i * 2)) = some (.string q.u) ∧ W.cell? ⟨(u.add (i * 2)).block, (u.add (i * 2)).off + 1, none⟩ = some (.int .i64 q.m) ∧ W.cell? (v.add (i * 2)) = some (.string p.u) ∧ W.cell? ⟨(v.add (i * 2)).block, (v.add (i * 2)).off + 1, none⟩ = some (.int .i64 p.m))) (by kernel_rfl) (by exact hS0) ?_
        intro hHeld
        (first | (refine wpAnyH_take (i := 0) (v := ?_) (by simp only [gA, gB, gC]; rfl) (by kernel_rfl) (by kernel_rfl) (by kernel_rfl) (by exact fun _ _ _ h => h) (Or.inl ⟨by rfl, ?_⟩) (by assumption) ?_; rotate_left; (focus (intro w hSw; (try dsimp only at hSw); go_simp; try with_reducible rfl))) | (refine wpAnyH_take (i := 0) (v := undef) (by simp only [gA, gB, gC]; rfl) (by kernel_rfl) (by kernel_rfl) (by kernel_rfl) (by exact fun _ _ _ h => h) (Or.inr ⟨by rfl, rfl⟩) (by assumption) ?_) | fail); simp only [Act.put, sA, sB, sC]
        (first | (refine wpAnyH_take (i := 1) (v := ?_) (by simp only [gA, gB, gC]; rfl) (by kernel_rfl) (by kernel_rfl) (by kernel_rfl) (by exact fun _ _ _ h => h) (Or.inl ⟨by rfl, ?_⟩) (by assumption) ?_; rotate_left; (focus (intro w hSw; (try dsimp only at hSw); go_simp; try with_reducible rfl))) | (refine wpAnyH_take (i := 1) (v := undef) (by simp only [gA, gB, gC]; rfl) (by kernel_rfl) (by kernel_rfl) (by kernel_rfl) (by exact fun _ _ _ h => h) (Or.inr ⟨by rfl, rfl⟩) (by assumption) ?_) | fail); simp only [Act.put, sA, sB, sC]
        (first | (refine wpAnyH_take (i := 2) (v := ?_) (by simp only [gA, gB, gC]; rfl) (by kernel_rfl) (by kernel_rfl) (by kernel_rfl) (by exact fun _ _ _ h => h) (Or.inl ⟨by rfl, ?_⟩) (by assumption) ?_; rotate_left; (focus (intro w hSw; (try dsimp only at hSw); go_simp; try with_reducible rfl))) | (refine wpAnyH_take (i := 2) (v := undef) (by simp only [gA, gB, gC]; rfl) (by kernel_rfl) (by kernel_rfl) (by kernel_rfl) (by exact fun _ _ _ h => h) (Or.inr ⟨by rfl, rfl⟩) (by assumption) ?_) | fail); simp only [Act.put, sA, sB, sC]
        (first | (refine wpAnyH_take (i := 3) (v := ?_) (by simp only [gA, gB, gC]; rfl) (by kernel_rfl) (by kernel_rfl) (by kernel_rfl) (by exact fun _ _ _ h => h) (Or.inl ⟨by rfl, ?_⟩) (by assumption) ?_; rotate_left; (focus (intro w hSw; (try dsimp only at hSw); go_simp; try with_reducible rfl))) | (refine wpAnyH_take (i := 3) (v := undef) (by simp only [gA, gB, gC]; rfl) (by kernel_rfl) (by kernel_rfl) (by kernel_rfl) (by exact fun _ _ _ h => h) (Or.inr ⟨by rfl, rfl⟩) (by assumption) ?_) | fail); simp only [Act.put, sA, sB, sC]
        (first | (refine wpAnyH_take (i := 4) (v := ?_) (by simp only [gA, gB, gC]; rfl) (by kernel_rfl) (by kernel_rfl) (by kernel_rfl) (by exact fun _ _ _ h => h) (Or.inl ⟨by rfl, ?_⟩) (by assumption) ?_; rotate_left; (focus (intro w hSw; (try dsimp only at hSw); go_simp; try with_reducible rfl))) | (refine wpAnyH_take (i := 4) (v := undef) (by simp only [gA, gB, gC]; rfl) (by kernel_rfl) (by kernel_rfl) (by kernel_rfl) (by exact fun _ _ _ h => h) (Or.inr ⟨by rfl, rfl⟩) (by assumption) ?_) | fail); simp only [Act.put, sA, sB, sC]
        (first | (refine wpAnyH_take (i := 5) (v := ?_) (by simp only [gA, gB, gC]; rfl) (by kernel_rfl) (by kernel_rfl) (by kernel_rfl) (by exact fun _ _ _ h => h) (Or.inl ⟨by rfl, ?_⟩) (by assumption) ?_; rotate_left; (focus (intro w hSw; (try dsimp only at hSw); go_simp; try with_reducible rfl))) | (refine wpAnyH_take (i := 5) (v := undef) (by simp only [gA, gB, gC]; rfl) (by kernel_rfl) (by kernel_rfl) (by kernel_rfl) (by exact fun _ _ _ h => h) (Or.inr ⟨by rfl, rfl⟩) (by assumption) ?_) | fail); simp only [Act.put, sA, sB, sC]
        (first | (refine wpAnyH_take (i := 6) (v := ?_) (by simp only [gA, gB, gC]; rfl) (by kernel_rfl) (by kernel_rfl) (by kernel_rfl) (by exact fun _ _ _ h => h) (Or.inl ⟨by rfl, ?_⟩) (by assumption) ?_; rotate_left; (focus (intro w hSw; (try dsimp only at hSw); go_simp; try with_reducible rfl))) | (refine wpAnyH_take (i := 6) (v := undef) (by simp only [gA, gB, gC]; rfl) (by kernel_rfl) (by kernel_rfl) (by kernel_rfl) (by exact fun _ _ _ h => h) (Or.inr ⟨by rfl, rfl⟩) (by assumption) ?_) | fail); simp only [Act.put, sA, sB, sC]
        (first | (refine wpAnyH_take (i := 7) (v := ?_) (by simp only [gA, gB, gC]; rfl) (by kernel_rfl) (by kernel_rfl) (by kernel_rfl) (by exact fun _ _ _ h => h) (Or.inl ⟨by rfl, ?_⟩) (by assumption) ?_; rotate_left; (focus (intro w hSw; (try dsimp only at hSw); go_simp; try with_reducible rfl))) | (refine wpAnyH_take (i := 7) (v := undef) (by simp only [gA, gB, gC]; rfl) (by kernel_rfl) (by kernel_rfl) (by kernel_rfl) (by exact fun _ _ _ h => h) (Or.inr ⟨by rfl, rfl⟩) (by assumption) ?_) | fail); simp only [Act.put, sA, sB, sC]
        (first | (refine wpAnyH_take (i := 8) (v := ?_) (by simp only [gA, gB, gC]; rfl) (by kernel_rfl) (by kernel_rfl) (by kernel_rfl) (by exact fun _ _ _ h => h) (Or.inl ⟨by rfl, ?_⟩) (by assumption) ?_; rotate_left; (focus (intro w hSw; (try dsimp only at hSw); go_simp; try with_reducible rfl))) | (refine wpAnyH_take (i := 8) (v := undef) (by simp only [gA, gB, gC]; rfl) (by kernel_rfl) (by kernel_rfl) (by kernel_rfl) (by exact fun _ _ _ h => h) (Or.inr ⟨by rfl, rfl⟩) (by assumption) ?_) | fail); simp only [Act.put, sA, sB, sC]
        (first | (refine wpAnyH_take (i := 9) (v := ?_) (by simp only [gA, gB, gC]; rfl) (by kernel_rfl) (by kernel_rfl) (by kernel_rfl) (by exact fun _ _ _ h => h) (Or.inl ⟨by rfl, ?_⟩) (by assumption) ?_; rotate_left; (focus (intro w hSw; (try dsimp only at hSw); go_simp; try with_reducible rfl))) | (refine wpAnyH_take (i := 9) (v := undef) (by simp only [gA, gB, gC]; rfl) (by kernel_rfl) (by kernel_rfl) (by kernel_rfl) (by exact fun _ _ _ h => h) (Or.inr ⟨by rfl, rfl⟩) (by assumption) ?_) | fail); simp only [Act.put, sA, sB, sC]
        (first | (refine wpAnyH_take (i := 10) (v := ?_) (by simp only [gA, gB, gC]; rfl) (by kernel_rfl) (by kernel_rfl) (by kernel_rfl) (by exact fun _ _ _ h => h) (Or.inl ⟨by rfl, ?_⟩) (by assumption) ?_; rotate_left; (focus (intro w hSw; (try dsimp only at hSw); go_simp; try with_reducible rfl))) | (refine wpAnyH_take (i := 10) (v := undef) (by simp only [gA, gB, gC]; rfl) (by kernel_rfl) (by kernel_rfl) (by kernel_rfl) (by exact fun _ _ _ h => h) (Or.inr ⟨by rfl, rfl⟩) (by assumption) ?_) | fail); simp only [Act.put, sA, sB, sC]
        refine wpAnyH_done (by kernel_rfl) ?_ _
        cases hg : grEq q p
        · obtain rfl : r = false := by rw [hall.out, hg]; rfl
          go_wp2_with fail
          go_ret
          exact ⟨rfl, h'.bl⟩
        · rw [hg, Bool.true_and] at hall
          go_wp2_with fail
          exact ⟨⟨i + 1, by omega, by simp, h', hall⟩, by simp [Go.RowKit.intOf]; omega⟩
      · obtain rfl : i = la := by omega
        have hr1 : Aside (r = allEq (fun a b : Int => a == b) (x.words.drop 0) (y.words.drop 0)) := by
          have := hall.out
          rw [allEq_end (by rw [hA.out.1]; exact Nat.le_refl _) (by rw [hA.out.2.1]; exact Nat.le_refl _), Bool.true_and] at this
          rw [this, hR2.out]
          exact rfl
        clear hall hR2 kG
        go_wp2_with fail
        clear z6 y6
        go_loopw [6] (fun t6 wr => ∃ j : Nat, j ≤ lw ∧ t6 = .int .i64 (j : Int) ∧ TwoN w wr x y aa ca wa cw ab cb wb cd ∧ Aside (r = allEq (fun a b : Int => a == b) (x.words.drop j) (y.words.drop j))) (fun t6 _ => lw - (Go.RowKit.intOf t6).toNat)
        case atStart => exact ⟨0, by omega, rfl, h, hr1⟩
        case round =>
          obtain ⟨j, hj, rfl, h, hall⟩ := hrel
          clear hr1
          have z11 : wr.cell? ⟨w.heap.size, 11, none⟩ = some (.slice wa lw cw) := by
            have := h.bx.2.2.2.2.2.2.2.2.2.2.2.1
            rw [hA.out.2.2.1] at this
            exact this
          have y11 : wr.cell? ⟨w.heap.size + 1, 11, none⟩ = some (.slice wb lw cd) := by
            have := h.bz.2.2.2.2.2.2.2.2.2.2.2.1
            rw [hA.out.2.2.2] at this
            exact this
          by_cases hlt : j < lw
          · obtain ⟨q, hq⟩ : ∃ q, x.words[j]? = some q := ⟨_, List.getElem?_eq_getElem (by rw [hA.out.2.2.1]; exact hlt)⟩
            obtain ⟨p, hp⟩ : ∃ p, y.words[j]? = some p := ⟨_, List.getElem?_eq_getElem (by rw [hA.out.2.2.2]; exact hlt)⟩
            obtain ⟨u, rfl, c1⟩ := h.wx j q hq
            obtain ⟨v, rfl, d1⟩ := h.wz j p hp
            rw [allEq_drop hq hp] at hall
            clear hq hp
            have hj1 : (j : Int) < (lw : Int) := by omega
            have hS0 : (fun W : World => W.cell? ⟨w.heap.size, 11, none⟩ = some (.slice (some u) lw cw) ∧ W.cell? ⟨w.heap.size + 1, 11, none⟩ = some (.slice (some v) lw cd) ∧ W.cell? (u.add j) = some (.int .i64 q) ∧ W.cell? (v.add j) = some (.int .i64 p)) wr.drew := ⟨z11, y11, c1, d1⟩
            have h' := h.drew
            go_wp2_with fail
            clear z11 y11 c1 d1 h
            refine wp_region_held_drew (S := (fun W : World => W.cell? ⟨w.heap.size, 11, none⟩ = some (.slice (some u) lw cw) ∧ W.cell? ⟨w.heap.size + 1, 11, none⟩ = some (.slice (some v) lw cd) ∧ W.cell? (u.add j) = some (.int .i64 q) ∧ W.cell? (v.add j) = some (.int .i64 p))) (by kernel_rfl) (by exact hS0) ?_
            intro hHeld
            (first | (refine wpAnyH_take (i := 0) (v := ?_) (by simp only [gA, gB, gC]; rfl) (by kernel_rfl) (by kernel_rfl) (by kernel_rfl) (by exact fun _ _ _ h => h) (Or.inl ⟨by rfl, ?_⟩) (by assumption) ?_; rotate_left; (focus (intro w hSw; (try dsimp only at hSw); go_simp; try with_reducible rfl))) | (refine wpAnyH_take (i := 0) (v := undef) (by simp only [gA, gB, gC]; rfl) (by kernel_rfl) (by kernel_rfl) (by kernel_rfl) (by exact fun _ _ _ h => h) (Or.inr ⟨by rfl, rfl⟩) (by assumption) ?_) | fail); simp only [Act.put, sA, sB, sC]
            (first | (refine wpAnyH_take (i := 1) (v := ?_) (by simp only [gA, gB, gC]; rfl) (by kernel_rfl) (by kernel_rfl) (by kernel_rfl) (by exact fun _ _ _ h => h) (Or.inl ⟨by rfl, ?_⟩) (by assumption) ?_; rotate_left; (focus (intro w hSw; (try dsimp only at hSw); go_simp; try with_reducible rfl))) | (refine wpAnyH_take (i := 1) (v := undef) (by simp only [gA, gB, gC]; rfl) (by kernel_rfl) (by kernel_rfl) (by kernel_rfl) (by exact fun _ _ _ h => h) (Or.inr ⟨by rfl, rfl⟩) (by assumption) ?_) | fail); simp only [Act.put, sA, sB, sC]
            (first | (refine wpAnyH_take (i := 2) (v := ?_) (by simp only [gA, gB, gC]; rfl) (by kernel_rfl) (by kernel_rfl) (by kernel_rfl) (by exact fun _ _ _ h => h) (Or.inl ⟨by rfl, ?_⟩) (by assumption) ?_; rotate_left; (focus (intro w hSw; (try dsimp only at hSw); go_simp; try with_reducible rfl))) | (refine wpAnyH_take (i := 2) (v := undef) (by simp only [gA, gB, gC]; rfl) (by kernel_rfl) (by kernel_rfl) (by kernel_rfl) (by exact fun _ _ _ h => h) (Or.inr ⟨by rfl, rfl⟩) (by assumption) ?_) | fail); simp only [Act.put, sA, sB, sC]
            (first | (refine wpAnyH_take (i := 3) (v := ?_) (by simp only [gA, gB, gC]; rfl) (by kernel_rfl) (by kernel_rfl) (by kernel_rfl) (by exact fun _ _ _ h => h) (Or.inl ⟨by rfl, ?_⟩) (by assumption) ?_; rotate_left; (focus (intro w hSw; (try dsimp only at hSw); go_simp; try with_reducible rfl))) | (refine wpAnyH_take (i := 3) (v := undef) (by simp only [gA, gB, gC]; rfl) (by kernel_rfl) (by kernel_rfl) (by kernel_rfl) (by exact fun _ _ _ h => h) (Or.inr ⟨by rfl, rfl⟩) (by assumption) ?_) | fail); simp only [Act.put, sA, sB, sC]
            (first | (refine wpAnyH_take (i := 4) (v := ?_) (by simp only [gA, gB, gC]; rfl) (by kernel_rfl) (by kernel_rfl) (by kernel_rfl) (by exact fun _ _ _ h => h) (Or.inl ⟨by rfl, ?_⟩) (by assumption) ?_; rotate_left; (focus (intro w hSw; (try dsimp only at hSw); go_simp; try with_reducible rfl))) | (refine wpAnyH_take (i := 4) (v := undef) (by simp only [gA, gB, gC]; rfl) (by kernel_rfl) (by kernel_rfl) (by kernel_rfl) (by exact fun _ _ _ h => h) (Or.inr ⟨by rfl, rfl⟩) (by assumption) ?_) | fail); simp only [Act.put, sA, sB, sC]
            (first | (refine wpAnyH_take (i := 5) (v := ?_) (by simp only [gA, gB, gC]; rfl) (by kernel_rfl) (by kernel_rfl) (by kernel_rfl) (by exact fun _ _ _ h => h) (Or.inl ⟨by rfl, ?_⟩) (by assumption) ?_; rotate_left; (focus (intro w hSw; (try dsimp only at hSw); go_simp; try with_reducible rfl))) | (refine wpAnyH_take (i := 5) (v := undef) (by simp only [gA, gB, gC]; rfl) (by kernel_rfl) (by kernel_rfl) (by kernel_rfl) (by exact fun _ _ _ h => h) (Or.inr ⟨by rfl, rfl⟩) (by assumption) ?_) | fail); simp only [Act.put, sA, sB, sC]
            (first | (refine wpAnyH_take (i := 6) (v := ?_) (by simp only [gA, gB, gC]; rfl) (by kernel_rfl) (by kernel_rfl) (by kernel_rfl) (by exact fun _ _ _ h => h) (Or.inl ⟨by rfl, ?_⟩) (by assumption) ?_; rotate_left; (focus (intro w hSw; (try dsimp only at hSw); go_simp; try with_reducible rfl))) | (refine wpAnyH_take (i := 6) (v := undef) (by simp only [gA, gB, gC]; rfl) (by kernel_rfl) (by kernel_rfl) (by kernel_rfl) (by exact fun _ _ _ h => h) (Or.inr ⟨by rfl, rfl⟩) (by assumption) ?_) | fail); simp only [Act.put, sA, sB, sC]
            (first | (refine wpAnyH_take (i := 7) (v := ?_) (by simp only [gA, gB, gC]; rfl) (by kernel_rfl) (by kernel_rfl) (by kernel_rfl) (by exact fun _ _ _ h => h) (Or.inl ⟨by rfl, ?_⟩) (by assumption) ?_; rotate_left; (focus (intro w hSw; (try dsimp only at hSw); go_simp; try with_reducible rfl))) | (refine wpAnyH_take (i := 7) (v := undef) (by simp only [gA, gB, gC]; rfl) (by kernel_rfl) (by kernel_rfl) (by kernel_rfl) (by exact fun _ _ _ h => h) (Or.inr ⟨by rfl, rfl⟩) (by assumption) ?_) | fail); simp only [Act.put, sA, sB, sC]
            (first | (refine wpAnyH_take (i := 8) (v := ?_) (by simp only [gA, gB, gC]; rfl) (by kernel_rfl) (by kernel_rfl) (by kernel_rfl) (by exact fun _ _ _ h => h) (Or.inl ⟨by rfl, ?_⟩) (by assumption) ?_; rotate_left; (focus (intro w hSw; (try dsimp only at hSw); go_simp; try with_reducible rfl))) | (refine wpAnyH_take (i := 8) (v := undef) (by simp only [gA, gB, gC]; rfl) (by kernel_rfl) (by kernel_rfl) (by kernel_rfl) (by exact fun _ _ _ h => h) (Or.inr ⟨by rfl, rfl⟩) (by assumption) ?_) | fail); simp only [Act.put, sA, sB, sC]
            (first | (refine wpAnyH_take (i := 9) (v := ?_) (by simp only [gA, gB, gC]; rfl) (by kernel_rfl) (by kernel_rfl) (by kernel_rfl) (by exact fun _ _ _ h => h) (Or.inl ⟨by rfl, ?_⟩) (by assumption) ?_; rotate_left; (focus (intro w hSw; (try dsimp only at hSw); go_simp; try with_reducible rfl))) | (refine wpAnyH_take (i := 9) (v := undef) (by simp only [gA, gB, gC]; rfl) (by kernel_rfl) (by kernel_rfl) (by kernel_rfl) (by exact fun _ _ _ h => h) (Or.inr ⟨by rfl, rfl⟩) (by assumption) ?_) | fail); simp only [Act.put, sA, sB, sC]
            (first | (refine wpAnyH_take (i := 10) (v := ?_) (by simp only [gA, gB, gC]; rfl) (by kernel_rfl) (by kernel_rfl) (by kernel_rfl) (by exact fun _ _ _ h => h) (Or.inl ⟨by rfl, ?_⟩) (by assumption) ?_; rotate_left; (focus (intro w hSw; (try dsimp only at hSw); go_simp; try with_reducible rfl))) | (refine wpAnyH_take (i := 10) (v := undef) (by simp only [gA, gB, gC]; rfl) (by kernel_rfl) (by kernel_rfl) (by kernel_rfl) (by exact fun _ _ _ h => h) (Or.inr ⟨by rfl, rfl⟩) (by assumption) ?_) | fail); simp only [Act.put, sA, sB, sC]
            refine wpAnyH_done (by kernel_rfl) ?_ _
            cases hg : (q == p)
            · have hg2 : (q != p) = true := by rw [bne, hg]; rfl
              obtain rfl : r = false := by rw [hall.out, hg]; rfl
              go_wp2_with fail
              go_ret
              exact ⟨rfl, h'.bl⟩
            · have hg2 : (q != p) = false := by rw [bne, hg]; rfl
              rw [hg, Bool.true_and] at hall
              clear hg
              go_wp2_with fail
              exact ⟨⟨j + 1, by omega, by simp, h', hall⟩, by simp [Go.RowKit.intOf]; omega⟩
          · obtain rfl : r = true := by
              rw [hall.out]
              exact allEq_end (by have := hA.out.2.2.1; omega) (by have := hA.out.2.2.2; omega)
            go_wp2_with fail
            go_ret
            exact ⟨rfl, h.bl⟩
end Go.Proofs.YtacjfbomjglnjaaDoor

/-! NODES TOLD BY DIRECTORIES: the document's own Under (donjonref11); the law's Same. -/
namespace Go.Proofs.YtacjfbomjglnjaaDoor
open Go.RowKit
set_option maxRecDepth 8000
set_option linter.unusedSimpArgs false
set_option linter.unusedVariables false

def scell (s : ByteArray) : List Value := [.string s]
theorem str_ok : ElemOk 9 51 1 scell :=
  ⟨Tryd.underlying51, by
    obtain ⟨i, h1, h2, h3, h4⟩ := info_of (e := 9) (z := .string ⟨#[]⟩) (sz := 1) (b := 16) (by kernel_rfl)
    exact ⟨i, _, _, h1, h2, h3, h4, rfl, by omega⟩, by omega, fun _ => rfl, fun x u hu => by simp [scell] at hu; subst hu; rfl⟩
abbrev OwnT (W : World) (base : Nat) (v : Value) (l : List ByteArray) : Prop := OwnR 9 1 scell W base v l
theorem slash_lit (u : ByteArray) : eqs u slashS = (u.toList == [47]) := by
  unfold eqs
  rw [show slashS.toList = [47] from by simp [slashS]]
set_option maxHeartbeats 4000000 in
theorem runderT_any (a : Option Addr) (cap : Nat) (l : List PN) (p : ByteArray) (hl : l.length ≤ 100000) (hp : ∀ x ∈ l, x.n.path.size ≤ 1000000) (w : World) (h : RowN w a l) :
    Calls Tryd.prog 24 #[.slice a l.length cap, .string p] w fun e w' => ∃ v, e = .returned v ∧ OwnT w' w.heap.size v (underP l p) ∧ Below w.heap.size w w' := by
  obtain ⟨n, hn⟩ : ∃ n, l.length = n := ⟨_, rfl⟩
  rw [hn] at hl ⊢
  replace hn : Aside (l.length = n) := hn
  have hfl : ∀ i, (((l.take i).filter fun x => isUnder p x.n).map fun x => lastOf x.n.path).length ≤ n := fun i => by
    rw [List.length_map]
    exact Nat.le_trans (List.length_filter_le _ _) (by rw [List.length_take, hn.out]; omega)
  go_enter Tryd.func24, Tryd.ntmps24
  go_wp2_with fail
  go_loopw [5, 6] (fun t5 t6 wr => ∃ i : Nat, i ≤ n ∧ t6 = .int .i64 (i : Int) ∧ OwnT wr w.heap.size t5 (((l.take i).filter fun x => isUnder p x.n).map fun x => lastOf x.n.path) ∧ Below w.heap.size w wr) (fun _ t6 _ => n - (Go.RowKit.intOf t6).toNat)
  case atStart => exact ⟨0, by omega, rfl, by simpa using OwnR.nil _ _ _ _ _, Below.refl _ _⟩
  case round =>
    obtain ⟨i, hi, rfl, ho, hB⟩ := hrel
    by_cases hlt : i < n
    · obtain ⟨x, hx⟩ : ∃ x, l[i]? = some x := ⟨_, List.getElem?_eq_getElem (by rw [hn.out]; exact hlt)⟩
      have hrow := h.below hB
      obtain ⟨y, rfl⟩ := h.some_ hx
      have hc := hrow.path hx
      have hps := hp x (List.mem_of_getElem? hx)
      have hft := filter_take (fun x : PN => isUnder p x.n) l hx
      have hun : isUnder p x.n = (!(x.n.path.toList == [47]) && (parentOf x.n.path).toList == p.toList) := by
        unfold isUnder
        rw [slash_lit]
        rfl
      have kp := rparent_any x.n.path hps
      have kl := rlast_any x.n.path hps
      cases hs : (x.n.path.toList == [47])
      · go_wp2_with fail
        refine (kp wr).mono ?_
        rintro e W1 ⟨rfl, hw1⟩
        replace hw1 := hw1.symm
        subst hw1
        have ho1 := ho
        have hB2 := hB
        clear hrow kp
        cases he : ((parentOf x.n.path).toList == p.toList)
        · rw [hun, hs, he] at hft
          simp at hft
          rw [← hft] at ho1
          clear kl hun
          go_wp2_with fail
          exact ⟨⟨i + 1, by omega, by simp, ho1, hB2⟩, by simp [Go.RowKit.intOf]; omega⟩
        · rw [hun, hs, he] at hft
          simp at hft
          clear hun
          go_wp2_with fail
          refine (kl wr).mono ?_
          rintro e W3 ⟨rfl, hw3⟩
          replace hw3 := hw3.symm
          subst hw3
          have ho3 := ho1
          have hB4 := hB2
          obtain ⟨v2, W2, hap, ho2, hg2⟩ := OwnR.push str_ok ho3 hB4.size (lastOf x.n.path) #[.string (lastOf x.n.path)] rfl 9 (by have := hfl i; omega)
          have hb2 := ho3.grew_below hB4.size hg2
          rw [show (((l.take i).filter fun x => isUnder p x.n).map fun x => lastOf x.n.path) ++ [lastOf x.n.path] = ((l.take (i + 1)).filter fun x => isUnder p x.n).map fun x => lastOf x.n.path by rw [hft]; simp] at ho2
          clear hft kl
          go_wp2_with (first | (refine wpList_append rfl _ _ rfl rfl rfl rfl hap ?_) | fail)
          exact ⟨⟨i + 1, by omega, by simp, ho2, hB4.trans hb2⟩, by simp [Go.RowKit.intOf]; omega⟩
      · rw [hun, hs] at hft
        simp at hft
        rw [← hft] at ho
        clear kp kl hun
        go_wp2_with fail
        exact ⟨⟨i + 1, by omega, by simp, ho, hB⟩, by simp [Go.RowKit.intOf]; omega⟩
    · obtain rfl : i = n := by omega
      rw [List.take_of_length_le (by rw [hn.out]; exact Nat.le_refl _)] at ho
      go_wp2_with fail
      go_ret
      exact ⟨_, rfl, ho, hB⟩
def sameN (l m : List Nod) : Bool := l.length == m.length && allEq nodEq l m
theorem sameN_iff {l m : List Nod} : sameN l m = true ↔ l = m := by
  unfold sameN
  rw [Bool.and_eq_true, allEq_iff (fun _ _ => nodEq_iff), beq_iff_eq]
  constructor
  · exact fun h => h.2
  · rintro rfl
    exact ⟨rfl, rfl⟩
def Fits (l : List PN) : Prop := ∀ x ∈ l, x.n.acl.length ≤ 1000000 ∧ x.n.words.length ≤ 1000000
theorem names_get {l : List PN} {i : Nat} {x : PN} (h : l[i]? = some x) : (namesP l)[i]? = some x.n := by
  unfold namesP
  rw [List.getElem?_map, h]
  rfl
set_option maxRecDepth 8000 in
set_option maxHeartbeats 4000000 in
theorem sameT_any (a b : Option Addr) (ca cb : Nat) (l m : List PN) (hl : l.length ≤ 100000) (hm : m.length ≤ 100000) (hf : Fits l) (w : World) (h : RowN w a l) (k : RowN w b m) :
    Calls Tryd.prog 18 #[.slice a l.length ca, .slice b m.length cb] w fun e w' => e = .returned (.bool (sameN (namesP l) (namesP m))) ∧ Below w.heap.size w w' := by
  have hund := Tryd.underlying32
  have hsz : (Tryd.prog.info? 32).map (·.size) = some 16 := by kernel_rfl
  obtain ⟨r, hr⟩ : ∃ r, sameN (namesP l) (namesP m) = r := ⟨_, rfl⟩
  rw [hr]
  unfold sameN at hr
  by_cases hlm : l.length = m.length
  · have hr0 : Aside (r = allEq nodEq ((namesP l).drop 0) ((namesP m).drop 0)) := by
      rw [← hr]
      simp only [namesP, List.length_map, hlm, beq_self_eq_true, Bool.true_and, List.drop_zero]
      first | exact rfl | exact trivial
    clear hr
    obtain ⟨n, hn⟩ : ∃ n, l.length = n := ⟨_, rfl⟩
    have hn2 : m.length = n := by omega
    rw [hn, hn2]
    have hA : Aside (l.length = n ∧ m.length = n) := ⟨hn, hn2⟩
    have hnn : n ≤ 100000 := by omega
    clear hlm hn hn2 hl hm
    go_enter Tryd.func18, Tryd.ntmps18
    go_wp2_with fail
    go_loopw [5] (fun t5 wr => ∃ i : Nat, i ≤ n ∧ t5 = .int .i64 (i : Int) ∧ Below w.heap.size w wr ∧ Aside (r = allEq nodEq ((namesP l).drop i) ((namesP m).drop i))) (fun t5 _ => n - (Go.RowKit.intOf t5).toNat)
    case atStart => exact ⟨0, by omega, rfl, Below.refl _ _, hr0⟩
    case round =>
      clear hr0
      obtain ⟨i, hi, rfl, hB, hall⟩ := hrel
      by_cases hlt : i < n
      · obtain ⟨x, hx⟩ : ∃ x, l[i]? = some x := ⟨_, List.getElem?_eq_getElem (by rw [hA.out.1]; exact hlt)⟩
        obtain ⟨z, hz⟩ : ∃ z, m[i]? = some z := ⟨_, List.getElem?_eq_getElem (by rw [hA.out.2]; exact hlt)⟩
        have hrl := h.below hB
        have hrm := k.below hB
        obtain ⟨ya, rfl⟩ := h.some_ hx
        obtain ⟨yb, rfl⟩ := k.some_ hz
        have w1 := hrl.r.at pn_len hx
        have w2 := hrm.r.at pn_len hz
        have pl := hrl.p x (List.mem_of_getElem? hx)
        have pm := hrm.p z (List.mem_of_getElem? hz)
        have ks := rsame_any x.n z.n x.aa x.ca x.wa x.cw z.aa z.ca z.wa z.cw (hf x (List.mem_of_getElem? hx)).1 (hf x (List.mem_of_getElem? hx)).2 wr.drew pl.g pm.g pl.w pm.w
        rw [allEq_drop (names_get hx) (names_get hz)] at hall
        rw [show x.n.v x.aa x.ca x.wa x.cw = .agg x.cs.toArray from rfl, show z.n.v z.aa z.ca z.wa z.cw = .agg z.cs.toArray from rfl] at ks
        obtain ⟨cs, hcs⟩ : ∃ cs, x.cs = cs := ⟨_, rfl⟩
        obtain ⟨ds, hds⟩ : ∃ ds, z.cs = ds := ⟨_, rfl⟩
        have hlen : cs.length = 16 := by rw [← hcs]; rfl
        have hlen2 : ds.length = 16 := by rw [← hds]; rfl
        rw [hcs] at w1 ks
        rw [hds] at w2 ks
        generalize nodEq x.n z.n = bb at *
        have i1 : (i : Int) < (n : Int) := by omega
        clear hcs hds hx hz hrl hrm pl pm h k
        have hsz1 : (Tryd.prog.info? 32).map (·.size) = some cs.length := by rw [hlen]; exact hsz
        have hsz2 : (Tryd.prog.info? 32).map (·.size) = some ds.length := by rw [hlen2]; exact hsz
        have hS0 : (fun W => CellsAt W (ya.add (i * 16)) cs ∧ CellsAt W (yb.add (i * 16)) ds) wr.drew := ⟨w1, w2⟩
        cases bb
        · obtain rfl : r = false := by rw [hall.out]; rfl
          go_wp2_with fail
          refine wp_region_held_drew (S := (fun W => CellsAt W (ya.add (i * 16)) cs ∧ CellsAt W (yb.add (i * 16)) ds)) (by kernel_rfl) (by first | exact hS1 | exact hS0) ?_
          intro hHeld
          (first | (refine wpAnyH_take (i := 0) (v := ?_) (by simp only [gA, gB, gC]; rfl) (by kernel_rfl) (by kernel_rfl) (by kernel_rfl) (by exact fun _ _ _ h => h) (Or.inl ⟨by rfl, ?_⟩) (by assumption) ?_; rotate_left; (focus (intro w hSw; (try dsimp only at hSw); go_simp; try with_reducible rfl))) | (refine wpAnyH_take (i := 0) (v := undef) (by simp only [gA, gB, gC]; rfl) (by kernel_rfl) (by kernel_rfl) (by kernel_rfl) (by exact fun _ _ _ h => h) (Or.inr ⟨by rfl, rfl⟩) (by assumption) ?_) | fail); simp only [Act.put, sA, sB, sC, Bool.not_true, Bool.not_false]
          (first | (refine wpAnyH_take (i := 1) (v := ?_) (by simp only [gA, gB, gC]; rfl) (by kernel_rfl) (by kernel_rfl) (by kernel_rfl) (by exact fun _ _ _ h => h) (Or.inl ⟨by rfl, ?_⟩) (by assumption) ?_; rotate_left; (focus (intro w hSw; (try dsimp only at hSw); go_simp; try with_reducible rfl))) | (refine wpAnyH_take (i := 1) (v := undef) (by simp only [gA, gB, gC]; rfl) (by kernel_rfl) (by kernel_rfl) (by kernel_rfl) (by exact fun _ _ _ h => h) (Or.inr ⟨by rfl, rfl⟩) (by assumption) ?_) | fail); simp only [Act.put, sA, sB, sC, Bool.not_true, Bool.not_false]
          (first | (refine wpAnyH_take (i := 2) (v := ?_) (by simp only [gA, gB, gC]; rfl) (by kernel_rfl) (by kernel_rfl) (by kernel_rfl) (by exact fun _ _ _ h => h) (Or.inl ⟨by rfl, ?_⟩) (by assumption) ?_; rotate_left; (focus (intro w hSw; (try dsimp only at hSw); go_simp; try with_reducible rfl))) | (refine wpAnyH_take (i := 2) (v := undef) (by simp only [gA, gB, gC]; rfl) (by kernel_rfl) (by kernel_rfl) (by kernel_rfl) (by exact fun _ _ _ h => h) (Or.inr ⟨by rfl, rfl⟩) (by assumption) ?_) | fail); simp only [Act.put, sA, sB, sC, Bool.not_true, Bool.not_false]
          (first | (refine wpAnyH_take (i := 3) (v := _) (by simp only [gA, gB, gC]; rfl) (by kernel_rfl) (by kernel_rfl) (by kernel_rfl) (by exact fun _ _ _ h => h) (yields_at (by rfl) _ rfl _ rfl cs (fun _ q => q.1) hund rfl hsz1) (by assumption) ?_) | (refine wpAnyH_take (i := 3) (v := undef) (by simp only [gA, gB, gC]; rfl) (by kernel_rfl) (by kernel_rfl) (by kernel_rfl) (by exact fun _ _ _ h => h) (Or.inr ⟨by rfl, rfl⟩) (by assumption) ?_) | fail); simp only [Act.put, sA, sB, sC, Bool.not_true, Bool.not_false]
          (first | (refine wpAnyH_take (i := 4) (v := ?_) (by simp only [gA, gB, gC]; rfl) (by kernel_rfl) (by kernel_rfl) (by kernel_rfl) (by exact fun _ _ _ h => h) (Or.inl ⟨by rfl, ?_⟩) (by assumption) ?_; rotate_left; (focus (intro w hSw; (try dsimp only at hSw); go_simp; try with_reducible rfl))) | (refine wpAnyH_take (i := 4) (v := undef) (by simp only [gA, gB, gC]; rfl) (by kernel_rfl) (by kernel_rfl) (by kernel_rfl) (by exact fun _ _ _ h => h) (Or.inr ⟨by rfl, rfl⟩) (by assumption) ?_) | fail); simp only [Act.put, sA, sB, sC, Bool.not_true, Bool.not_false]
          (first | (refine wpAnyH_take (i := 5) (v := ?_) (by simp only [gA, gB, gC]; rfl) (by kernel_rfl) (by kernel_rfl) (by kernel_rfl) (by exact fun _ _ _ h => h) (Or.inl ⟨by rfl, ?_⟩) (by assumption) ?_; rotate_left; (focus (intro w hSw; (try dsimp only at hSw); go_simp; try with_reducible rfl))) | (refine wpAnyH_take (i := 5) (v := undef) (by simp only [gA, gB, gC]; rfl) (by kernel_rfl) (by kernel_rfl) (by kernel_rfl) (by exact fun _ _ _ h => h) (Or.inr ⟨by rfl, rfl⟩) (by assumption) ?_) | fail); simp only [Act.put, sA, sB, sC, Bool.not_true, Bool.not_false]
          (first | (refine wpAnyH_take (i := 6) (v := ?_) (by simp only [gA, gB, gC]; rfl) (by kernel_rfl) (by kernel_rfl) (by kernel_rfl) (by exact fun _ _ _ h => h) (Or.inl ⟨by rfl, ?_⟩) (by assumption) ?_; rotate_left; (focus (intro w hSw; (try dsimp only at hSw); go_simp; try with_reducible rfl))) | (refine wpAnyH_take (i := 6) (v := undef) (by simp only [gA, gB, gC]; rfl) (by kernel_rfl) (by kernel_rfl) (by kernel_rfl) (by exact fun _ _ _ h => h) (Or.inr ⟨by rfl, rfl⟩) (by assumption) ?_) | fail); simp only [Act.put, sA, sB, sC, Bool.not_true, Bool.not_false]
          (first | (refine wpAnyH_take (i := 7) (v := _) (by simp only [gA, gB, gC]; rfl) (by kernel_rfl) (by kernel_rfl) (by kernel_rfl) (by exact fun _ _ _ h => h) (yields_at (by rfl) _ rfl _ rfl ds (fun _ q => q.2) hund rfl hsz2) (by assumption) ?_) | (refine wpAnyH_take (i := 7) (v := undef) (by simp only [gA, gB, gC]; rfl) (by kernel_rfl) (by kernel_rfl) (by kernel_rfl) (by exact fun _ _ _ h => h) (Or.inr ⟨by rfl, rfl⟩) (by assumption) ?_) | fail); simp only [Act.put, sA, sB, sC, Bool.not_true, Bool.not_false]
          first | (refine wpAnyH_take (i := 8) (v := undef) (by simp only [gA, gB, gC]; rfl) (by kernel_rfl) (by kernel_rfl) (by kernel_rfl) (by exact fun _ _ _ h => h) (Or.inr ⟨by rfl, rfl⟩) (by assumption) ?_; simp only [Act.put, sA, sB, sC, Bool.not_true, Bool.not_false]) | (refine wpAnyH_ready (rs := [8]) (by kernel_rfl) (by simp) ?_; refine AllReadyH.cons (by simp only [gA, gB, gC]; rfl) (fun K hK => ?_) AllReadyH.nil; go_simp; (first | (go_at_call 25; refine ks.mono ?_; rintro e w1 ⟨rfl, hb1⟩; have hS1 : (fun W => CellsAt W (ya.add (i * 16)) cs ∧ CellsAt W (yb.add (i * 16)) ds) w1 := ⟨hS0.1.below hb1, hS0.2.below hb1⟩)); refine hK.out _ _ (by first | exact hS1 | exact hS0) ?_; clear hHeld hK; intro hHeld; (try simp only [Act.put, sA, sB, sC, Bool.not_true, Bool.not_false])) | fail
          (first | (refine wpAnyH_take (i := 9) (v := ?_) (by simp only [gA, gB, gC]; rfl) (by kernel_rfl) (by kernel_rfl) (by kernel_rfl) (by exact fun _ _ _ h => h) (Or.inl ⟨by rfl, ?_⟩) (by assumption) ?_; rotate_left; (focus (intro w hSw; (try dsimp only at hSw); go_simp; try with_reducible rfl))) | (refine wpAnyH_take (i := 9) (v := undef) (by simp only [gA, gB, gC]; rfl) (by kernel_rfl) (by kernel_rfl) (by kernel_rfl) (by exact fun _ _ _ h => h) (Or.inr ⟨by rfl, rfl⟩) (by assumption) ?_) | fail); simp only [Act.put, sA, sB, sC, Bool.not_true, Bool.not_false]
          refine wpAnyH_done (by kernel_rfl) ?_ _
          go_wp2_with fail
          go_ret
          exact ⟨rfl, Below.then hB.drew hb1⟩
        · rw [Bool.true_and] at hall
          go_wp2_with fail
          refine wp_region_held_drew (S := (fun W => CellsAt W (ya.add (i * 16)) cs ∧ CellsAt W (yb.add (i * 16)) ds)) (by kernel_rfl) (by first | exact hS1 | exact hS0) ?_
          intro hHeld
          (first | (refine wpAnyH_take (i := 0) (v := ?_) (by simp only [gA, gB, gC]; rfl) (by kernel_rfl) (by kernel_rfl) (by kernel_rfl) (by exact fun _ _ _ h => h) (Or.inl ⟨by rfl, ?_⟩) (by assumption) ?_; rotate_left; (focus (intro w hSw; (try dsimp only at hSw); go_simp; try with_reducible rfl))) | (refine wpAnyH_take (i := 0) (v := undef) (by simp only [gA, gB, gC]; rfl) (by kernel_rfl) (by kernel_rfl) (by kernel_rfl) (by exact fun _ _ _ h => h) (Or.inr ⟨by rfl, rfl⟩) (by assumption) ?_) | fail); simp only [Act.put, sA, sB, sC, Bool.not_true, Bool.not_false]
          (first | (refine wpAnyH_take (i := 1) (v := ?_) (by simp only [gA, gB, gC]; rfl) (by kernel_rfl) (by kernel_rfl) (by kernel_rfl) (by exact fun _ _ _ h => h) (Or.inl ⟨by rfl, ?_⟩) (by assumption) ?_; rotate_left; (focus (intro w hSw; (try dsimp only at hSw); go_simp; try with_reducible rfl))) | (refine wpAnyH_take (i := 1) (v := undef) (by simp only [gA, gB, gC]; rfl) (by kernel_rfl) (by kernel_rfl) (by kernel_rfl) (by exact fun _ _ _ h => h) (Or.inr ⟨by rfl, rfl⟩) (by assumption) ?_) | fail); simp only [Act.put, sA, sB, sC, Bool.not_true, Bool.not_false]
          (first | (refine wpAnyH_take (i := 2) (v := ?_) (by simp only [gA, gB, gC]; rfl) (by kernel_rfl) (by kernel_rfl) (by kernel_rfl) (by exact fun _ _ _ h => h) (Or.inl ⟨by rfl, ?_⟩) (by assumption) ?_; rotate_left; (focus (intro w hSw; (try dsimp only at hSw); go_simp; try with_reducible rfl))) | (refine wpAnyH_take (i := 2) (v := undef) (by simp only [gA, gB, gC]; rfl) (by kernel_rfl) (by kernel_rfl) (by kernel_rfl) (by exact fun _ _ _ h => h) (Or.inr ⟨by rfl, rfl⟩) (by assumption) ?_) | fail); simp only [Act.put, sA, sB, sC, Bool.not_true, Bool.not_false]
          (first | (refine wpAnyH_take (i := 3) (v := _) (by simp only [gA, gB, gC]; rfl) (by kernel_rfl) (by kernel_rfl) (by kernel_rfl) (by exact fun _ _ _ h => h) (yields_at (by rfl) _ rfl _ rfl cs (fun _ q => q.1) hund rfl hsz1) (by assumption) ?_) | (refine wpAnyH_take (i := 3) (v := undef) (by simp only [gA, gB, gC]; rfl) (by kernel_rfl) (by kernel_rfl) (by kernel_rfl) (by exact fun _ _ _ h => h) (Or.inr ⟨by rfl, rfl⟩) (by assumption) ?_) | fail); simp only [Act.put, sA, sB, sC, Bool.not_true, Bool.not_false]
          (first | (refine wpAnyH_take (i := 4) (v := ?_) (by simp only [gA, gB, gC]; rfl) (by kernel_rfl) (by kernel_rfl) (by kernel_rfl) (by exact fun _ _ _ h => h) (Or.inl ⟨by rfl, ?_⟩) (by assumption) ?_; rotate_left; (focus (intro w hSw; (try dsimp only at hSw); go_simp; try with_reducible rfl))) | (refine wpAnyH_take (i := 4) (v := undef) (by simp only [gA, gB, gC]; rfl) (by kernel_rfl) (by kernel_rfl) (by kernel_rfl) (by exact fun _ _ _ h => h) (Or.inr ⟨by rfl, rfl⟩) (by assumption) ?_) | fail); simp only [Act.put, sA, sB, sC, Bool.not_true, Bool.not_false]
          (first | (refine wpAnyH_take (i := 5) (v := ?_) (by simp only [gA, gB, gC]; rfl) (by kernel_rfl) (by kernel_rfl) (by kernel_rfl) (by exact fun _ _ _ h => h) (Or.inl ⟨by rfl, ?_⟩) (by assumption) ?_; rotate_left; (focus (intro w hSw; (try dsimp only at hSw); go_simp; try with_reducible rfl))) | (refine wpAnyH_take (i := 5) (v := undef) (by simp only [gA, gB, gC]; rfl) (by kernel_rfl) (by kernel_rfl) (by kernel_rfl) (by exact fun _ _ _ h => h) (Or.inr ⟨by rfl, rfl⟩) (by assumption) ?_) | fail); simp only [Act.put, sA, sB, sC, Bool.not_true, Bool.not_false]
          (first | (refine wpAnyH_take (i := 6) (v := ?_) (by simp only [gA, gB, gC]; rfl) (by kernel_rfl) (by kernel_rfl) (by kernel_rfl) (by exact fun _ _ _ h => h) (Or.inl ⟨by rfl, ?_⟩) (by assumption) ?_; rotate_left; (focus (intro w hSw; (try dsimp only at hSw); go_simp; try with_reducible rfl))) | (refine wpAnyH_take (i := 6) (v := undef) (by simp only [gA, gB, gC]; rfl) (by kernel_rfl) (by kernel_rfl) (by kernel_rfl) (by exact fun _ _ _ h => h) (Or.inr ⟨by rfl, rfl⟩) (by assumption) ?_) | fail); simp only [Act.put, sA, sB, sC, Bool.not_true, Bool.not_false]
          (first | (refine wpAnyH_take (i := 7) (v := _) (by simp only [gA, gB, gC]; rfl) (by kernel_rfl) (by kernel_rfl) (by kernel_rfl) (by exact fun _ _ _ h => h) (yields_at (by rfl) _ rfl _ rfl ds (fun _ q => q.2) hund rfl hsz2) (by assumption) ?_) | (refine wpAnyH_take (i := 7) (v := undef) (by simp only [gA, gB, gC]; rfl) (by kernel_rfl) (by kernel_rfl) (by kernel_rfl) (by exact fun _ _ _ h => h) (Or.inr ⟨by rfl, rfl⟩) (by assumption) ?_) | fail); simp only [Act.put, sA, sB, sC, Bool.not_true, Bool.not_false]
          first | (refine wpAnyH_take (i := 8) (v := undef) (by simp only [gA, gB, gC]; rfl) (by kernel_rfl) (by kernel_rfl) (by kernel_rfl) (by exact fun _ _ _ h => h) (Or.inr ⟨by rfl, rfl⟩) (by assumption) ?_; simp only [Act.put, sA, sB, sC, Bool.not_true, Bool.not_false]) | (refine wpAnyH_ready (rs := [8]) (by kernel_rfl) (by simp) ?_; refine AllReadyH.cons (by simp only [gA, gB, gC]; rfl) (fun K hK => ?_) AllReadyH.nil; go_simp; (first | (go_at_call 25; refine ks.mono ?_; rintro e w1 ⟨rfl, hb1⟩; have hS1 : (fun W => CellsAt W (ya.add (i * 16)) cs ∧ CellsAt W (yb.add (i * 16)) ds) w1 := ⟨hS0.1.below hb1, hS0.2.below hb1⟩)); refine hK.out _ _ (by first | exact hS1 | exact hS0) ?_; clear hHeld hK; intro hHeld; (try simp only [Act.put, sA, sB, sC, Bool.not_true, Bool.not_false])) | fail
          (first | (refine wpAnyH_take (i := 9) (v := ?_) (by simp only [gA, gB, gC]; rfl) (by kernel_rfl) (by kernel_rfl) (by kernel_rfl) (by exact fun _ _ _ h => h) (Or.inl ⟨by rfl, ?_⟩) (by assumption) ?_; rotate_left; (focus (intro w hSw; (try dsimp only at hSw); go_simp; try with_reducible rfl))) | (refine wpAnyH_take (i := 9) (v := undef) (by simp only [gA, gB, gC]; rfl) (by kernel_rfl) (by kernel_rfl) (by kernel_rfl) (by exact fun _ _ _ h => h) (Or.inr ⟨by rfl, rfl⟩) (by assumption) ?_) | fail); simp only [Act.put, sA, sB, sC, Bool.not_true, Bool.not_false]
          refine wpAnyH_done (by kernel_rfl) ?_ _
          go_wp2_with fail
          exact ⟨⟨i + 1, by omega, by simp, Below.then hB.drew hb1, hall⟩, by simp [Go.RowKit.intOf]; omega⟩
      · obtain rfl : i = n := by omega
        obtain rfl : r = true := by rw [hall.out, allEq_end (by simp [namesP, hA.out.1]) (by simp [namesP, hA.out.2])]
        clear hall
        go_wp2_with fail
        go_ret
        exact ⟨rfl, hB⟩
  · obtain rfl : r = false := by
      rw [← hr]
      simp only [namesP, List.length_map, beq_eq_false_iff_ne.2 hlm, Bool.false_and]
    have i1 : ((l.length : Int) != (m.length : Int)) = true := by simp; omega
    clear hr h k
    go_enter Tryd.func18, Tryd.ntmps18
    go_wp2_with fail
    go_ret
    exact ⟨rfl, Below.refl _ _⟩
end Go.Proofs.YtacjfbomjglnjaaDoor

/-! WHERE A PATH STANDS: package tree's place, as it landed (slices.BinarySearchFunc), of lists that stand by their paths. -/
namespace Go.Proofs.YtacjfbomjglnjaaDoor
open Go.RowKit
set_option maxRecDepth 8000
set_option linter.unusedSimpArgs false
set_option linter.unusedVariables false

/-- A list, parted at a path. -/
structure PartsN (l : List PN) (u : ByteArray) (A M B : List PN) : Prop where
  eq : l = A ++ (M ++ B)
  ahead : ∀ x ∈ A, lt x.n.path u = true
  mid : M = [] ∨ ∃ x, M = [x] ∧ x.n.path = u
  behind : ∀ x ∈ B, lt u x.n.path = true
def OrdP (l : List PN) : Prop := l.Pairwise fun a b => lt a.n.path b.n.path = true
theorem ordP {l : List PN} : Ordered (namesP l) ↔ OrdP l := by
  unfold Ordered namesP OrdP
  rw [List.pairwise_map]
theorem partsN_of (u : ByteArray) : ∀ (l : List PN), OrdP l → ∃ A M B, PartsN l u A M B
  | [], _ => ⟨[], [], [], rfl, fun x h => (by cases h), .inl rfl, fun x h => (by cases h)⟩
  | a :: r, h => by
    obtain ⟨h1, h2⟩ := List.pairwise_cons.1 h
    rcases lt_total a.n.path u with hl | he | hg
    · obtain ⟨A, M, B, p⟩ := partsN_of u r h2
      refine ⟨a :: A, M, B, by rw [p.eq]; rfl, fun x hx => ?_, p.mid, p.behind⟩
      rcases List.mem_cons.1 hx with rfl | hx
      · exact hl
      · exact p.ahead x hx
    · exact ⟨[], [a], r, rfl, fun x hx => (by cases hx), .inr ⟨a, rfl, he⟩, fun x hx => by rw [← he]; exact h1 x hx⟩
    · refine ⟨[], [], a :: r, rfl, fun x hx => (by cases hx), .inl rfl, fun x hx => ?_⟩
      rcases List.mem_cons.1 hx with rfl | hx
      · exact hg
      · exact lt_trans hg (h1 x hx)
theorem PartsN.len {l A M B : List PN} {u : ByteArray} (p : PartsN l u A M B) : l.length = A.length + (M.length + B.length) := by rw [p.eq]; simp
theorem PartsN.cmp {l A M B : List PN} {u : ByteArray} (p : PartsN l u A M B) {h : Nat} {g : PN} (hg : l[h]? = some g) : (cmpB g.n.path u < 0 ↔ h < A.length) ∧ (cmpB g.n.path u = 0 ↔ (h = A.length ∧ M ≠ [])) := by
  rw [p.eq] at hg
  by_cases h1 : h < A.length
  · rw [List.getElem?_append_left h1] at hg
    have := p.ahead g (List.mem_of_getElem? hg)
    refine ⟨⟨fun _ => h1, fun _ => (cmp_lt _ _).2 this⟩, ⟨fun e => absurd ((cmp_eq0 _ _).1 e) (lt_ne this), fun e => by omega⟩⟩
  · rw [List.getElem?_append_right (by omega)] at hg
    rcases p.mid with hM | ⟨m, hM, hu⟩
    · rw [hM] at hg
      have hb := p.behind g (List.mem_of_getElem? (by simpa using hg))
      refine ⟨⟨fun e => ?_, fun e => absurd e h1⟩, ⟨fun e => absurd ((cmp_eq0 _ _).1 e).symm (lt_ne hb), fun e => absurd hM e.2⟩⟩
      have := (cmp_lt _ _).1 e
      rw [lt_asymm hb] at this
      cases this
    · rw [hM] at hg ⊢
      by_cases h2 : h = A.length
      · subst h2
        simp at hg
        subst hg
        have e0 : cmpB u u = 0 := (cmp_eq0 _ _).2 rfl
        simp [e0, hu]
      · obtain ⟨k, hk⟩ : ∃ k, h - A.length = k + 1 := ⟨h - A.length - 1, by omega⟩
        rw [hk] at hg
        have hb := p.behind g (List.mem_of_getElem? (by simpa using hg))
        refine ⟨⟨fun e => ?_, fun e => absurd e h1⟩, ⟨fun e => absurd ((cmp_eq0 _ _).1 e).symm (lt_ne hb), fun e => absurd e.1 h2⟩⟩
        have := (cmp_lt _ _).1 e
        rw [lt_asymm hb] at this
        cases this
/-! What is found, dropped and put, by its parts. -/
theorem PartsN.find {l A M B : List PN} {u : ByteArray} (p : PartsN l u A M B) : findP l u = M.head? := by
  have hA : A.find? (fun x => eqs x.n.path u) = none := List.find?_eq_none.2 fun x hx => by
    rw [eqs_ne (lt_ne (p.ahead x hx))]; decide
  have hB : B.find? (fun x => eqs x.n.path u) = none := List.find?_eq_none.2 fun x hx => by
    rw [eqs_ne (fun e => lt_ne (p.behind x hx) e.symm)]; decide
  unfold findP
  rw [p.eq, List.find?_append, hA, List.find?_append, hB]
  rcases p.mid with hM | ⟨m, hM, hu⟩
  · rw [hM]; rfl
  · rw [hM]
    have : [m].find? (fun x => eqs x.n.path u) = some m := by rw [List.find?_cons, hu, eqs_self]
    rw [this]
    rfl
theorem PartsN.drop {l A M B : List PN} {u : ByteArray} (p : PartsN l u A M B) : dropP l u = A ++ B := by
  have hA : A.filter (fun x => !eqs x.n.path u) = A := List.filter_eq_self.2 fun x hx => by
    rw [eqs_ne (lt_ne (p.ahead x hx))]; rfl
  have hB : B.filter (fun x => !eqs x.n.path u) = B := List.filter_eq_self.2 fun x hx => by
    rw [eqs_ne (fun e => lt_ne (p.behind x hx) e.symm)]; rfl
  unfold dropP
  rw [p.eq, List.filter_append, hA, List.filter_append, hB]
  rcases p.mid with hM | ⟨m, hM, hu⟩
  · rw [hM]; rfl
  · rw [hM, List.filter_cons, hu, eqs_self]
    rfl
theorem while_parts {α : Type} {f : α → Bool} : ∀ (A B : List α), (∀ x ∈ A, f x = true) → (∀ x ∈ B, f x = false) → (A ++ B).takeWhile f = A ∧ (A ++ B).dropWhile f = B
  | [], [], _, _ => ⟨rfl, rfl⟩
  | [], b :: r, _, h => by
    have := h b List.mem_cons_self
    simp [List.takeWhile_cons, List.dropWhile_cons, this]
  | a :: r, B, h1, h2 => by
    have ih := while_parts r B (fun x hx => h1 x (List.mem_cons_of_mem _ hx)) h2
    have := h1 a List.mem_cons_self
    simp [List.takeWhile_cons, List.dropWhile_cons, this, ih]
theorem PartsN.put {l A M B : List PN} {x : PN} (p : PartsN l x.n.path A M B) : putP l x = A ++ ([x] ++ B) := by
  unfold putP
  rw [p.drop]
  obtain ⟨h1, h2⟩ := while_parts (f := fun y : PN => lt y.n.path x.n.path) A B p.ahead fun y hy => lt_asymm (p.behind y hy)
  rw [h1, h2]
  rfl
set_option maxRecDepth 8000 in
set_option maxHeartbeats 1000000 in
theorem pcmp_any (x : PN) (u : ByteArray) (w : World) :
    Calls Tryd.prog 58 #[.agg x.cs.toArray, .string u] w fun e w' => e = .returned (.int .i64 (cmpB x.n.path u)) ∧ Below w.heap.size w w' := by
  have hb := alloc_below w (.cells x.cs.toArray 32)
  unfold PN.cs nclT at *
  go_enter Tryd.func58, Tryd.ntmps58
  go_wp2_with (go_at_call 59; refine (compare_any _ _ _).mono ?_; rintro e w' ⟨rfl, rfl⟩)
  go_ret
  exact ⟨rfl, hb⟩
set_option maxRecDepth 8000 in
set_option maxHeartbeats 4000000 in
theorem tsearch_any (w : World) (a : Option Addr) (cap : Nat) (l A M B : List PN) (u : ByteArray) (p : PartsN l u A M B) (hG : RowN w a l) (hl : l.length ≤ 100000) :
    Calls Tryd.prog 57 #[.slice a l.length cap, .string u, .func (.func 58) #[] #[]] w fun e w' => e = .returned (.tuple #[.int .i64 (A.length : Nat), .bool (!M.isEmpty)]) ∧ Below w.heap.size w w' := by
  have hund := Tryd.underlying32
  have hsz : (Tryd.prog.info? 32).map (·.size) = some 16 := by kernel_rfl
  have hlen := p.len
  obtain ⟨n, hn⟩ : ∃ n, l.length = n := ⟨_, rfl⟩
  obtain ⟨c, hc⟩ : ∃ c, A.length = c := ⟨_, rfl⟩
  obtain ⟨b, hb⟩ : ∃ b, (!M.isEmpty) = b := ⟨_, rfl⟩
  have hcmp : ∀ (h : Nat) (g : PN), l[h]? = some g → (cmpB g.n.path u < 0 ↔ h < c) ∧ (cmpB g.n.path u = 0 ↔ (h = c ∧ b = true)) := by
    intro h g hg
    have := p.cmp hg
    rw [hc] at this
    refine ⟨this.1, this.2.trans ?_⟩
    rw [← hb]
    cases M <;> simp
  have hcn : c ≤ n := by omega
  have hbn : b = true → c < n := by
    intro h
    rw [← hb] at h
    cases M with
    | nil => simp at h
    | cons x y => simp at hlen; omega
  rw [hn, hc, hb]
  rw [hn] at hl
  clear p hb hc hlen
  replace hn : Aside (l.length = n) := hn
  go_enter Tryd.func57, Tryd.ntmps57
  go_wp2
  go_loopg [9, 10] n (fun kx s9 s10 wr => ∃ lo hi : Nat, s9 = .int .i64 lo ∧ s10 = .int .i64 hi ∧ lo ≤ c ∧ c ≤ hi ∧ hi ≤ n ∧ hi - lo ≤ kx ∧ Below w.heap.size w wr)
  case atStart => exact ⟨0, n, rfl, rfl, Nat.zero_le _, hcn, Nat.le_refl _, by omega, Below.refl _ _⟩
  case round =>
    obtain ⟨lo, hi, rfl, rfl, hlo, hhi, hin, hg, hB⟩ := hrel
    by_cases hlt : lo < hi
    · obtain ⟨y, hy⟩ : ∃ y, l[(lo + hi) / 2]? = some y := ⟨_, List.getElem?_eq_getElem (by rw [hn.out]; omega)⟩
      have hrow := hG.below hB
      obtain ⟨x, rfl⟩ := hG.some_ hy
      have hw := hrow.r.at pn_len hy
      have hcy := hcmp _ _ hy
      have kc := pcmp_any y u wr
      obtain ⟨cs, hcs⟩ : ∃ cs, y.cs = cs := ⟨_, rfl⟩
      have hlen : cs.length = 16 := by rw [← hcs]; rfl
      rw [hcs] at hw kc
      rw [← hlen] at hsz
      clear hcs hy hrow hG
      obtain ⟨cv, hcv⟩ : ∃ cv, cmpB y.n.path u = cv := ⟨_, rfl⟩
      rw [hcv] at hcy kc
      by_cases hyx : cv < 0
      · have hlt2 := hcy.1.1 hyx
        go_wp2_with (first | (refine wpList_load_at rfl _ rfl (x.add ((lo + hi) / 2 * 16)) rfl cs hw hund rfl hsz ?_) | (go_at_call 58; refine kc.mono ?_; rintro e w' ⟨rfl, hBw⟩) | fail)
        go_roundg (hi - ((lo + hi) / 2 + 1))
        case measure => omega
        case rel => exact ⟨(lo + hi) / 2 + 1, hi, by rw [show ((lo : Int) + (hi : Int)) / 2 + 1 = (((lo + hi) / 2 + 1 : Nat) : Int) by omega], rfl, by omega, hhi, hin, Nat.le_refl _, Below.then hB hBw⟩
      · have hge : c ≤ (lo + hi) / 2 := Nat.le_of_not_lt fun h => hyx (hcy.1.2 h)
        go_wp2_with (first | (refine wpList_load_at rfl _ rfl (x.add ((lo + hi) / 2 * 16)) rfl cs hw hund rfl hsz ?_) | (go_at_call 58; refine kc.mono ?_; rintro e w' ⟨rfl, hBw⟩) | fail)
        go_roundg ((lo + hi) / 2 - lo)
        case measure => omega
        case rel => exact ⟨lo, (lo + hi) / 2, rfl, by rw [show ((lo : Int) + (hi : Int)) / 2 = (((lo + hi) / 2 : Nat) : Int) by omega], hlo, hge, by omega, Nat.le_refl _, Below.then hB hBw⟩
    · obtain rfl : lo = c := by omega
      by_cases hln : lo < n
      · obtain ⟨y, hy⟩ : ∃ y, l[lo]? = some y := ⟨_, List.getElem?_eq_getElem (by rw [hn.out]; omega)⟩
        have hrow := hG.below hB
        obtain ⟨x, rfl⟩ := hG.some_ hy
        have hw := hrow.r.at pn_len hy
        have hcy := (hcmp _ _ hy).2
        have kc := pcmp_any y u wr
        obtain ⟨cs, hcs⟩ : ∃ cs, y.cs = cs := ⟨_, rfl⟩
        have hlen : cs.length = 16 := by rw [← hcs]; rfl
        rw [hcs] at hw kc
        rw [← hlen] at hsz
        clear hcs hy hrow hG
        obtain ⟨cv, hcv⟩ : ∃ cv, cmpB y.n.path u = cv := ⟨_, rfl⟩
        rw [hcv] at hcy kc
        by_cases hyx : cv = 0
        · obtain rfl : b = true := (hcy.1 hyx).2
          go_wp2_with (first | (refine wpList_load_atg rfl _ rfl (x.add (lo * 16)) rfl cs hw hund rfl hsz ?_) | (go_at_call 58; refine kc.mono ?_; rintro e w' ⟨rfl, hBw⟩) | fail)
          go_ret2
          exact ⟨by simp, Below.then hB hBw⟩
        · obtain rfl : b = false := by
            cases b
            · rfl
            · exact absurd (hcy.2 ⟨rfl, rfl⟩) hyx
          go_wp2_with (first | (refine wpList_load_atg rfl _ rfl (x.add (lo * 16)) rfl cs hw hund rfl hsz ?_) | (go_at_call 58; refine kc.mono ?_; rintro e w' ⟨rfl, hBw⟩) | fail)
          go_ret2
          exact ⟨by simp [hyx], Below.then hB hBw⟩
      · obtain rfl : b = false := by
          cases b
          · rfl
          · exact absurd (hbn rfl) hln
        go_wp2
        go_ret2
        exact ⟨rfl, hB⟩
set_option maxHeartbeats 1000000 in
theorem place_any (w : World) (a : Option Addr) (cap : Nat) (l A M B : List PN) (u : ByteArray) (p : PartsN l u A M B) (hG : RowN w a l) (hl : l.length ≤ 100000) :
    Calls Tryd.prog 34 #[.slice a l.length cap, .string u] w fun e w' => e = .returned (.tuple #[.int .i64 (A.length : Nat), .bool (!M.isEmpty)]) ∧ Below w.heap.size w w' := by
  have h := tsearch_any w a cap l A M B u p hG hl
  go_enter Tryd.func34, Tryd.ntmps34
  go_wp2_with (go_at_call 57; refine h.mono ?_; rintro e w' ⟨rfl, hB⟩)
  go_ret2
  exact ⟨rfl, hB⟩
end Go.Proofs.YtacjfbomjglnjaaDoor

/-! ROWS MADE AND COPIED, of whatever elements. For every stage from the eleventh on. -/
namespace Go.Proofs.YtacjfbomjglnjaaDoor
open Go.RowKit
set_option maxRecDepth 8000
set_option linter.unusedSimpArgs false
set_option linter.unusedVariables false

theorem run_copy_cells_many {P : Program} (w : World) (dT sT ty elem : TypeId) (z b o dLen dCap : Nat) (a : Addr) (sLen sCap : Nat) (cs : List Value)
    (hu : P.underlying dT = some (.slice elem)) (hs : (P.info? elem).map (·.size) = some z) (hn : cs.length = Nat.min sLen dLen * z)
    (hsrc : ∀ j v, cs[j]? = some v → w.cell? (a.add j) = some v) (hc : ∀ j, j < cs.length → (w.cell? ⟨b, o + j, none⟩).isSome = true) (hf : ∀ j, j < cs.length → w.frozen? ⟨b, o + j, none⟩ = false) (h1 : ∀ v ∈ cs, v.oneCell' = true) :
    (Builtin.copy_ #[dT, sT] ty #[.slice (some ⟨b, o, none⟩) dLen dCap, .slice (some a) sLen sCap]).run P w = .ok (goInt (Nat.min sLen dLen)) (w.setCells b o cs) := by
  have hl := run_loadCells_list (P := P) w a cs hsrc
  have hst := run_storeCells_cells (P := P) b o cs 0 w (by simpa using hc) (by simpa using hf) h1
  cases hq : P.info? elem with
  | none => simp [hq] at hs
  | some i =>
    have hi : i.size = z := by simpa [hq] using hs
    simp [Builtin.copy_, run_underlying hu, Builtin.lenOf, Builtin.firstCells, sizeOf, typeInfo, hq, hi, ← hn, hl, hst]
theorem run_copy_none {P : Program} (w : World) (dT sT ty elem : TypeId) (z : Nat) (d a : Option Addr) (dLen dCap sLen sCap : Nat) (hu : P.underlying dT = some (.slice elem)) (hs : (P.info? elem).map (·.size) = some z) (hn : Nat.min sLen dLen = 0) :
    (Builtin.copy_ #[dT, sT] ty #[.slice d dLen dCap, .slice a sLen sCap]).run P w = .ok (goInt 0) w := by
  cases hq : P.info? elem with
  | none => simp [hq] at hs
  | some i =>
    have hl : ∀ (x : Addr), (loadCells x 0).run P w = .ok #[] w := fun x => by simpa using run_loadCells_list (P := P) w x [] (by simp)
    cases d <;> cases a <;> simp [Builtin.copy_, run_underlying hu, Builtin.lenOf, Builtin.firstCells, sizeOf, typeInfo, hq, hn, storeCells, hl]
theorem make_some {α : Type} {e t : TypeId} {sz : Nat} {f : α → List Value} (hE : ElemOk e t sz f) (w : World) (n : Nat) (hn : n ≤ 1000) : ∃ cur : Array Value, cur.size = n * sz ∧ (Instr.makeSlice t (.int .i64 (n : Int)) (.int .i64 (n : Int))).run Tryd.prog w = .ok (.slice (some ⟨w.heap.size, 0, none⟩) n n) (w.alloc (.cells cur e)) := by
  obtain ⟨i, z, b, hi, hz, hs, hb, hzs, hbb⟩ := hE.info
  have hq : b * n ≤ 10000 * 1000 := Nat.mul_le_mul hbb hn
  have h := run_make (P := Tryd.prog) w t e i _ hE.und hi hz .i64 .i64 n n (by omega) (by omega) (by
    rw [hb]
    have : ((b * n : Nat) : Int) ≤ ((10000 * 1000 : Nat) : Int) := by exact_mod_cast hq
    rw [Int.natCast_mul] at this
    omega) (by omega)
  refine ⟨_, ?_, h⟩
  rw [hs]
  simp [madeCells]
/-- A row, made and copied. -/
theorem copied_run {α : Type} {e t : TypeId} {sz : Nat} {f : α → List Value} (hE : ElemOk e t sz f) (l : List α) (n : Nat) (hl : l.length = n) (a : Option Addr) (cap : Nat) (w : World) (hn : n ≤ 1000) (h : RowAt sz f w a l) (ty : TypeId) :
    ∃ W1 W2, (Instr.makeSlice t (.int .i64 (n : Int)) (.int .i64 (n : Int))).run Tryd.prog w = .ok (.slice (some ⟨w.heap.size, 0, none⟩) n n) W1 ∧
      (Builtin.copy_ #[t, t] ty #[.slice (some ⟨w.heap.size, 0, none⟩) n n, .slice a n cap]).run Tryd.prog W1 = .ok (goInt n) W2 ∧ RowAt sz f W2 (some ⟨w.heap.size, 0, none⟩) l ∧ w.heap.size < W2.heap.size ∧ Below w.heap.size w W2 := by
  obtain ⟨cur, hcs, hmk⟩ := make_some hE w n hn
  obtain ⟨i, z, b, hi, hz, hs, hb, hzs, hbb⟩ := hE.info
  have hp := hE.pos
  have hszm : (Tryd.prog.info? e).map (·.size) = some sz := by rw [hi]; simpa using hs
  have hB := alloc_below w (.cells cur e)
  have hbk := blk_alloc w cur e
  cases a with
  | none =>
    have hl0 : l = [] := by
      cases l with
      | nil => rfl
      | cons x r =>
        obtain ⟨y, hy, _⟩ := h 0 x rfl
        cases hy
    subst hl0
    obtain rfl : n = 0 := hl.symm
    exact ⟨_, _, hmk, run_copy_none _ t t ty e sz _ _ _ _ _ _ hE.und hszm (by rfl), fun j x hx => by simp at hx, by simp, hB⟩
  | some y =>
    have hfl : (l.flatMap f).length = n * sz := by rw [flat_length hE.len, hl]
    have hr := (h.below hE.len hB).flat hE.len hp
    have hbl : cur.toList.length = (l.flatMap f).length := by rw [hfl]; simpa using hcs
    have hth := hbk.there
    rw [hbl] at hth
    have hc := run_copy_cells_many (P := Tryd.prog) (w.alloc (.cells cur e)) t t ty e sz w.heap.size 0 n n y n cap (l.flatMap f) hE.und hszm (by rw [show Nat.min n n = n from Nat.min_self n]; exact hfl) hr (fun j hj => (hth j hj).1) (fun j hj => (hth j hj).2) (fun u hu => by
      obtain ⟨x, _, hx⟩ := List.mem_flatMap.1 hu
      exact hE.one x u hx)
    rw [show Nat.min n n = n from Nat.min_self n] at hc
    refine ⟨_, _, hmk, hc, fun j x hx => ⟨_, rfl, fun q hq => ?_⟩, Nat.lt_of_lt_of_le (by simp) (Below.cells (Nat.le_refl w.heap.size) (l.flatMap f) 0 (Below.refl w.heap.size (w.alloc (.cells cur e)))).size, Below.cells (Nat.le_refl _) _ 0 hB⟩
    have hj := (List.getElem?_eq_some_iff.1 hx).1
    have hlt : j * sz + q < (l.flatMap f).length := by
      rw [hfl, ← hl]
      have : (j + 1) * sz ≤ l.length * sz := Nat.mul_le_mul_right _ hj
      rw [Nat.succ_mul] at this
      omega
    have hg := (hbk.setAll hbl).range (j * sz + q) _ (List.getElem?_eq_getElem hlt)
    rw [Nat.zero_add] at hg
    rw [add_at, hg, ← List.getElem?_eq_getElem, flat_at hE.len l j q x hx hq]
end Go.Proofs.YtacjfbomjglnjaaDoor

/-! PARTS OF A STRUCT'S BLOCK, stored whole: what the block holds then. For every stage from the eleventh on. -/
namespace Go.Proofs.YtacjfbomjglnjaaDoor
open Go.RowKit
set_option maxRecDepth 8000
set_option linter.unusedSimpArgs false
set_option linter.unusedVariables false

def setM : List Value → Nat → List Value → List Value
  | cs, _, [] => cs
  | cs, k, v :: r => setM (cs.set k v) (k + 1) r
theorem setM_len : ∀ (vs : List Value) (cs : List Value) (k : Nat), (setM cs k vs).length = cs.length
  | [], _, _ => rfl
  | v :: r, cs, k => by rw [setM, setM_len r, List.length_set]
theorem Blk.putM : ∀ (vs : List Value) {W : World} {b : Nat} {cs : List Value} (k : Nat), Blk W b cs → k + vs.length ≤ cs.length → Blk (W.setCells b k vs) b (setM cs k vs)
  | [], _, _, _, _, h, _ => h
  | v :: r, W, b, cs, k, h, hl => by
    simp at hl
    exact Blk.putM r (k + 1) (h.set k v (by omega)) (by simp; omega)
theorem Blk.thereM {W : World} {b : Nat} {cs : List Value} (h : Blk W b cs) (k m : Nat) (hl : k + m ≤ cs.length) : W.there b k m := fun j hj => by
  have := h (k + j) cs[k + j] (List.getElem?_eq_getElem (by omega))
  exact ⟨by rw [this.1]; rfl, this.2⟩
/-- A part of a struct's block is stored: the block, and what lies elsewhere. -/
theorem put_mid {W : World} {b : Nat} {cs : List Value} (h : BlkL b cs W) (k : Nat) (vs : List Value) (hl : k + vs.length ≤ cs.length) (hp : 0 < cs.length) {Z : World} (hb : Below Z.heap.size Z W) (hz : Z.heap.size ≤ b) :
    ∃ W', W.setCells b k vs = W' ∧ W.there b k vs.length ∧ BlkL b (setM cs k vs) W' ∧ Below Z.heap.size Z W' := by
  have h1 := Blk.putM vs k h.1 hl
  refine ⟨_, rfl, h.1.thereM k vs.length hl, ⟨h1, ?_⟩, Below.cells hz vs k hb⟩
  have hl2 : 0 < (setM cs k vs).length := by rw [setM_len]; exact hp
  exact h1.lt (List.getElem?_eq_getElem hl2)
theorem OwnR.mid {α : Type} {e : TypeId} {sz : Nat} {f : α → List Value} {w : World} {base g : Nat} {v : Value} {l : List α} (h : OwnR e sz f w base v l) (hg : v.ownBlock ≠ some g) (o : Nat) (vs : List Value) : OwnR e sz f (w.setCells g o vs) base v l :=
  h.keep fun k hk => heap_setCells_other (fun q => hg (by rw [hk, q])) vs o w
section
variable {ops : Array Oper} {rest : List Oper} {o : Oper} {a : Act} {w W : World} {Q : Exit → Act → World → Prop} {T : TypeId}
theorem wpList_store_part (hg : o.guard = none) (x y : Operand) (ho : o.op = .store T x y) (b k : Nat) (hx : a.eval x = .pointer (some ⟨b, k, none⟩)) (cs : List Value) (hy : a.eval y = .agg cs.toArray)
    (ht : w.there b k cs.length) (hi : (Tryd.prog.info? T).map (·.size) = some cs.length) (h1 : ∀ v ∈ cs, v.oneCell' = true) (hW : w.setCells b k cs = W)
    (h : wpList Tryd.prog ops Q rest (a.put o.dst undef) W) : wpList Tryd.prog ops Q (o :: rest) a w :=
  wpList_store_mid hg T x y ho b k cs.toArray hx hy ht hi (all_oneCell_toArray h1) (hW ▸ h)
theorem step_store_part {K : Act → World → Prop} {E : Prop} (hg : o.guard = none) (x y : Operand) (ho : o.op = .store T x y) (b k : Nat) (hx : a.eval x = .pointer (some ⟨b, k, none⟩)) (cs : List Value) (hy : a.eval y = .agg cs.toArray)
    (ht : w.there b k cs.length) (hi : (Tryd.prog.info? T).map (·.size) = some cs.length) (h1 : ∀ v ∈ cs, v.oneCell' = true) (hW : w.setCells b k cs = W) (hK : K (a.put o.dst undef) W) :
    if Region.wanted o (yielded ops a.tmps) = true then Oper.wp Tryd.prog o a w K Q else E := by
  have hw : Region.wanted o (yielded ops a.tmps) = true := by simp [Region.wanted, hg]
  rw [if_pos hw]
  exact wp_store_mid T x y ho b k cs.toArray hx hy ht hi (all_oneCell_toArray h1) (hW ▸ hK)
end
end Go.Proofs.YtacjfbomjglnjaaDoor

/-! NODES OF ONE'S OWN: package tree's copied, own, Find and row, as they landed. -/
namespace Go.Proofs.YtacjfbomjglnjaaDoor
open Go.RowKit
set_option maxRecDepth 8000
set_option linter.unusedSimpArgs false
set_option linter.unusedVariables false

def wcl (x : Int) : List Value := [.int .i64 x]
theorem wd_okT : ElemOk 2 30 1 wcl :=
  ⟨Tryd.underlying30, by
    obtain ⟨i, h1, h2, h3, h4⟩ := info_of (e := 2) (z := .int .i64 0) (sz := 1) (b := 8) (by kernel_rfl)
    exact ⟨i, _, _, h1, h2, h3, h4, rfl, by omega⟩, by omega, fun _ => rfl, fun x u hu => by simp [wcl] at hu; subst hu; rfl⟩
theorem grs_row {W : World} {a : Option Addr} {l : List Gr} (h : GrsAt W a l) : RowAt 2 gcl W a l := fun j g hg => by
  obtain ⟨y, hy, h1, h2⟩ := h j g hg
  refine ⟨y, hy, fun i hi => ?_⟩
  match i, hi with
  | 0, _ => exact h1
  | 1, _ => rw [add_off _ _ 1 (by decide)]; exact h2
theorem row_grs {W : World} {a : Option Addr} {l : List Gr} (h : RowAt 2 gcl W a l) : GrsAt W a l := fun j q hq => by
  obtain ⟨y, hy, hc⟩ := h j q hq
  have h1 := hc 1 (by omega)
  rw [add_off _ _ 1 (by decide)] at h1
  exact ⟨y, hy, by simpa [gcl] using hc 0 (by omega), h1⟩
theorem wrds_row {W : World} {a : Option Addr} {l : List Int} (h : WrdsAt W a l) : RowAt 1 wcl W a l := fun j q hq => by
  obtain ⟨y, hy, h1⟩ := h j q hq
  refine ⟨y, hy, fun i hi => ?_⟩
  obtain rfl : i = 0 := by omega
  simpa [wcl] using h1
theorem row_wrds {W : World} {a : Option Addr} {l : List Int} (h : RowAt 1 wcl W a l) : WrdsAt W a l := fun j q hq => by
  obtain ⟨y, hy, hc⟩ := h j q hq
  refine ⟨y, hy, ?_⟩
  simpa [wcl] using hc 0 (by omega)
set_option maxHeartbeats 1000000 in
theorem copiedG_any (a : Option Addr) (cap : Nat) (l : List Gr) (w : World) (hn : l.length ≤ 1000) (h : GrsAt w a l) :
    Calls Tryd.prog 65 #[.slice a l.length cap] w fun e w' => e = .returned (.slice (some ⟨w.heap.size, 0, none⟩) l.length l.length) ∧ GrsAt w' (some ⟨w.heap.size, 0, none⟩) l ∧ w.heap.size < w'.heap.size ∧ Below w.heap.size w w' := by
  obtain ⟨n, hl⟩ : ∃ n, l.length = n := ⟨_, rfl⟩
  rw [hl] at hn ⊢
  obtain ⟨W1, W2, hmk, hcp, hr, hlt, hB⟩ := copied_run gr_okT l n hl a cap w hn (grs_row h) 3
  replace hr := row_grs hr
  clear hl
  go_enter Tryd.func65, Tryd.ntmps65
  go_wp2_with fail
  go_ret
  exact ⟨rfl, hr, hlt, hB⟩
set_option maxHeartbeats 1000000 in
theorem copiedW_any (a : Option Addr) (cap : Nat) (l : List Int) (w : World) (hn : l.length ≤ 1000) (h : WrdsAt w a l) :
    Calls Tryd.prog 66 #[.slice a l.length cap] w fun e w' => e = .returned (.slice (some ⟨w.heap.size, 0, none⟩) l.length l.length) ∧ WrdsAt w' (some ⟨w.heap.size, 0, none⟩) l ∧ w.heap.size < w'.heap.size ∧ Below w.heap.size w w' := by
  obtain ⟨n, hl⟩ : ∃ n, l.length = n := ⟨_, rfl⟩
  rw [hl] at hn ⊢
  obtain ⟨W1, W2, hmk, hcp, hr, hlt, hB⟩ := copied_run wd_okT l n hl a cap w hn (wrds_row h) 3
  replace hr := row_wrds hr
  clear hl
  go_enter Tryd.func66, Tryd.ntmps66
  go_wp2_with fail
  go_ret
  exact ⟨rfl, hr, hlt, hB⟩
abbrev ndz : Array Value := #[.string ⟨#[]⟩, .bool false, .int .i64 0, .int .i64 0, .int .i64 0, .int .i64 0, .slice none 0 0, .int .i64 0, .int .i64 0, .int .i64 0, .int .i64 0, .slice none 0 0, .int .i64 0, .int .i64 0, .int .i64 0, .int .i64 0]
/-- Few enough to be copied. -/
def PN.Few (x : PN) : Prop := x.n.acl.length ≤ 1000 ∧ x.n.words.length ≤ 1000
theorem GrsAt.same {W W' : World} {g : Nat} {l : List Gr} (h : GrsAt W (some ⟨g, 0, none⟩) l) (hb : W'.heap[g]? = W.heap[g]?) : GrsAt W' (some ⟨g, 0, none⟩) l := row_grs fun j q hq => by
  obtain ⟨y, hy, hc⟩ := grs_row h j q hq
  obtain rfl := Option.some.inj hy
  refine ⟨_, rfl, fun i hi => ?_⟩
  rw [add_at] at *
  rw [← hc i hi, add_at]
  exact World.cell?_of_block (a := ⟨g, j * 2 + i, none⟩) hb
theorem WrdsAt.same {W W' : World} {g : Nat} {l : List Int} (h : WrdsAt W (some ⟨g, 0, none⟩) l) (hb : W'.heap[g]? = W.heap[g]?) : WrdsAt W' (some ⟨g, 0, none⟩) l := row_wrds fun j q hq => by
  obtain ⟨y, hy, hc⟩ := wrds_row h j q hq
  obtain rfl := Option.some.inj hy
  refine ⟨_, rfl, fun i hi => ?_⟩
  rw [add_at] at *
  rw [← hc i hi, add_at]
  exact World.cell?_of_block (a := ⟨g, j * 1 + i, none⟩) hb
/-- A row lies nowhere, or in a block of which that holds. -/
def InBlk (a : Option Addr) (P : Nat → Prop) : Prop := a = none ∨ ∃ g, a = some ⟨g, 0, none⟩ ∧ P g
theorem InBlk.imp {a : Option Addr} {P Q : Nat → Prop} (h : InBlk a P) (k : ∀ g, P g → Q g) : InBlk a Q := by
  rcases h with h | ⟨g, h, hp⟩
  · exact .inl h
  · exact .inr ⟨g, h, k g hp⟩
theorem grs_keep {W W' : World} {a : Option Addr} {l : List Gr} (h : GrsAt W a l) (hb : InBlk a fun g => W'.heap[g]? = W.heap[g]?) : GrsAt W' a l := by
  rcases hb with rfl | ⟨g, rfl, hb⟩
  · intro j q hq
    obtain ⟨y, hy, _⟩ := h j q hq
    cases hy
  · exact h.same hb
theorem wrds_keep {W W' : World} {a : Option Addr} {l : List Int} (h : WrdsAt W a l) (hb : InBlk a fun g => W'.heap[g]? = W.heap[g]?) : WrdsAt W' a l := by
  rcases hb with rfl | ⟨g, rfl, hb⟩
  · intro j q hq
    obtain ⟨y, hy, _⟩ := h j q hq
    cases hy
  · exact h.same hb
/-- Its rows lie in blocks of their own, behind that number. -/
def PN.Own (y : PN) (b : Nat) (W : World) : Prop := InBlk y.aa (fun g => b ≤ g ∧ g < W.heap.size) ∧ InBlk y.wa (fun g => b ≤ g ∧ g < W.heap.size)
theorem PN.At.cells {y : PN} {W : World} {b g : Nat} {W0 : World} (h : y.At W) (ho : y.Own b W0) (hg : g < b) (o : Nat) (vs : List Value) : y.At (W.setCells g o vs) :=
  ⟨grs_keep h.g (ho.1.imp fun k hk => heap_setCells_other (b := g) (k := k) (by omega) vs o W), wrds_keep h.w (ho.2.imp fun k hk => heap_setCells_other (b := g) (k := k) (by omega) vs o W)⟩
/-- Its rows lie in blocks other than a value's own. -/
def PN.Apart (y : PN) (W : World) (v : Value) : Prop := InBlk y.aa (fun g => g < W.heap.size ∧ some g ≠ v.ownBlock) ∧ InBlk y.wa (fun g => g < W.heap.size ∧ some g ≠ v.ownBlock)
theorem PN.Apart.grew {y : PN} {W W' : World} {v v' : Value} (h : y.Apart W v) (ha : y.At W) (k : Grew W v W' v') : y.Apart W' v' ∧ y.At W' :=
  ⟨⟨h.1.imp fun g hg => ⟨Nat.lt_of_lt_of_le hg.1 k.by_.size, k.apart hg.1 hg.2⟩, h.2.imp fun g hg => ⟨Nat.lt_of_lt_of_le hg.1 k.by_.size, k.apart hg.1 hg.2⟩⟩, grs_keep ha.g (h.1.imp fun g hg => k.by_.block _ hg.1 hg.2), wrds_keep ha.w (h.2.imp fun g hg => k.by_.block _ hg.1 hg.2)⟩
theorem PN.Apart.size {y : PN} {W W' : World} {v : Value} (h : y.Apart W v) (b : W.heap.size ≤ W'.heap.size) : y.Apart W' v := ⟨h.1.imp fun g hg => ⟨by omega, hg.2⟩, h.2.imp fun g hg => ⟨by omega, hg.2⟩⟩
theorem PN.Own.apart {y : PN} {W W' : World} {b : Nat} {v : Value} (h : y.Own b W) (hv : ∀ k, v.ownBlock = some k → k < b) : y.Apart W v :=
  ⟨h.1.imp fun g hg => ⟨hg.2, fun e => by have := hv _ e.symm; omega⟩, h.2.imp fun g hg => ⟨hg.2, fun e => by have := hv _ e.symm; omega⟩⟩
theorem PN.Own.lower {y : PN} {W W' : World} {b c : Nat} (h : y.Own b W) (hc : c ≤ b) (hs : W.heap.size ≤ W'.heap.size) : y.Own c W' := ⟨h.1.imp fun g hg => ⟨by omega, by omega⟩, h.2.imp fun g hg => ⟨by omega, by omega⟩⟩
set_option maxRecDepth 8000 in
set_option maxHeartbeats 2000000 in
theorem own_any (x : PN) (hx : x.Few) (w : World) (h : x.At w) :
    Calls Tryd.prog 45 #[.agg x.cs.toArray] w fun e w' => ∃ y : PN, e = .returned (.agg y.cs.toArray) ∧ y.n = x.n ∧ y.At w' ∧ y.Own w.heap.size w' ∧ Below w.heap.size w w' := by
  have hund := Tryd.underlying32
  have hsz : (Tryd.prog.info? 32).map (·.size) = some 16 := by kernel_rfl
  have hcs : x.cs = [.string x.n.path, .bool x.n.dir, .int .i64 x.n.label.s, .int .i64 x.n.label.c, .int .i64 x.n.label.i, .int .i64 x.n.label.k, .slice x.aa x.n.acl.length x.ca, .int .i64 x.n.r1, .int .i64 x.n.r2, .int .i64 x.n.r3, .int .i64 x.n.gates, .slice x.wa x.n.words.length x.cw, .int .i64 x.n.by_.s, .int .i64 x.n.by_.c, .int .i64 x.n.by_.i, .int .i64 x.n.by_.k] := rfl
  have hb0 := blkl_alloc w x.cs.toArray 32
  have hB0 := alloc_below w (.cells x.cs.toArray 32)
  have hz0 := World.size_alloc w (.cells x.cs.toArray 32)
  have hb1 := blkl_alloc (w.alloc (.cells x.cs.toArray 32)) #[.string ⟨#[]⟩, .bool false, .int .i64 0, .int .i64 0, .int .i64 0, .int .i64 0, .slice none 0 0, .int .i64 0, .int .i64 0, .int .i64 0, .int .i64 0, .slice none 0 0, .int .i64 0, .int .i64 0, .int .i64 0, .int .i64 0] 32
  have hB1 := alloc_below (w.alloc (.cells x.cs.toArray 32)) (.cells #[.string ⟨#[]⟩, .bool false, .int .i64 0, .int .i64 0, .int .i64 0, .int .i64 0, .slice none 0 0, .int .i64 0, .int .i64 0, .int .i64 0, .int .i64 0, .slice none 0 0, .int .i64 0, .int .i64 0, .int .i64 0, .int .i64 0] 32)
  have hz1 := World.size_alloc (w.alloc (.cells x.cs.toArray 32)) (.cells #[.string ⟨#[]⟩, .bool false, .int .i64 0, .int .i64 0, .int .i64 0, .int .i64 0, .slice none 0 0, .int .i64 0, .int .i64 0, .int .i64 0, .int .i64 0, .slice none 0 0, .int .i64 0, .int .i64 0, .int .i64 0, .int .i64 0] 32)
  rw [hz0] at hb1 hz1
  have hb0' := stab_blk _ _ _ _ hb0 hB1
  have hB01 := Below.then hB0 hB1
  clear hb0 hB0 hz0 hB1
  rw [hcs] at hb0' hb1 hz1 hB01 ⊢
  go_enter Tryd.func45, Tryd.ntmps45
  go_wp2_with fail
  generalize (w.alloc (.cells ([.string x.n.path, .bool x.n.dir, .int .i64 x.n.label.s, .int .i64 x.n.label.c, .int .i64 x.n.label.i, .int .i64 x.n.label.k, .slice x.aa x.n.acl.length x.ca, .int .i64 x.n.r1, .int .i64 x.n.r2, .int .i64 x.n.r3, .int .i64 x.n.gates, .slice x.wa x.n.words.length x.cw, .int .i64 x.n.by_.s, .int .i64 x.n.by_.c, .int .i64 x.n.by_.i, .int .i64 x.n.by_.k]).toArray 32)).alloc (.cells #[.string ⟨#[]⟩, .bool false, .int .i64 0, .int .i64 0, .int .i64 0, .int .i64 0, .slice none 0 0, .int .i64 0, .int .i64 0, .int .i64 0, .int .i64 0, .slice none 0 0, .int .i64 0, .int .i64 0, .int .i64 0, .int .i64 0] 32) = W at *
  refine (copiedG_any x.aa x.ca x.n.acl W hx.1 (h.g.below hB01)).mono ?_
  rintro e W2 ⟨rfl, hg2, hlt, hB2⟩
  have hB02 := Below.then hB01 hB2
  have hk2 := stab_blk _ _ _ _ hb0' hB2
  have hm2 := stab_blk _ _ _ _ hb1 hB2
  have hga : w.heap.size + 2 ≤ W.heap.size := by omega
  have hB2g : W.heap.size < W2.heap.size := hlt
  generalize W.heap.size = ga at *
  clear hb0' hb1 hB01 hB2 hz1
  have k6 := hk2.1 6 _ rfl
  obtain ⟨k61, k62⟩ := k6
  have k11 := (hk2.1 11 _ rfl).1
  have hk3 := hk2.1.set 6 (.slice (some ⟨ga, 0, none⟩) x.n.acl.length x.n.acl.length) (by simp)
  have hm3 := hm2.1.same (heap_setCell_other W2 ⟨w.heap.size, 6, none⟩ (w.heap.size + 1) (.slice (some ⟨ga, 0, none⟩) x.n.acl.length x.n.acl.length) (by simp))
  have hg3 := hg2.same (heap_setCell_other W2 ⟨w.heap.size, 6, none⟩ ga (.slice (some ⟨ga, 0, none⟩) x.n.acl.length x.n.acl.length) (by show ga ≠ w.heap.size; omega))
  have hB03 := hB02.setCell (p := ⟨w.heap.size, 6, none⟩) (Nat.le_refl _) (.slice (some ⟨ga, 0, none⟩) x.n.acl.length x.n.acl.length)
  have hz3 : (W2.setCell ⟨w.heap.size, 6, none⟩ (.slice (some ⟨ga, 0, none⟩) x.n.acl.length x.n.acl.length)).heap.size = W2.heap.size := by simp
  have hlt3 : ga < W2.heap.size := hB2g
  go_wp2_with fail
  generalize W2.setCell ⟨w.heap.size, 6, none⟩ (.slice (some ⟨ga, 0, none⟩) x.n.acl.length x.n.acl.length) = W3 at *
  clear hk2 hm2 hg2 hB02 k61 k62 k11
  refine (copiedW_any x.wa x.cw x.n.words W3 hx.2 (h.w.below hB03)).mono ?_
  rintro e W4 ⟨rfl, hw4, hltw, hB4⟩
  have hB04 := Below.then hB03 hB4
  have hk4 := hk3.same (hB4.block _ (by omega))
  have hm4 := hm3.same (hB4.block _ (by omega))
  have hg4 := hg3.same (hB4.block _ (by omega))
  have hgw : ga < W3.heap.size := by omega
  have hwg2 : w.heap.size + 2 ≤ W3.heap.size := by omega
  clear hk3 hm3 hg3 hB03 hz3
  generalize W3.heap.size = gw at *
  have hk5 := hk4.set 11 (.slice (some ⟨gw, 0, none⟩) x.n.words.length x.n.words.length) (by simp)
  have hm5 := hm4.same (heap_setCell_other W4 ⟨w.heap.size, 11, none⟩ (w.heap.size + 1) (.slice (some ⟨gw, 0, none⟩) x.n.words.length x.n.words.length) (by simp))
  have hg5 := hg4.same (heap_setCell_other W4 ⟨w.heap.size, 11, none⟩ ga (.slice (some ⟨gw, 0, none⟩) x.n.words.length x.n.words.length) (by show ga ≠ w.heap.size; omega))
  have hw5 := hw4.same (heap_setCell_other W4 ⟨w.heap.size, 11, none⟩ gw (.slice (some ⟨gw, 0, none⟩) x.n.words.length x.n.words.length) (by show gw ≠ w.heap.size; omega))
  have hB05 := hB04.setCell (p := ⟨w.heap.size, 11, none⟩) (Nat.le_refl _) (.slice (some ⟨gw, 0, none⟩) x.n.words.length x.n.words.length)
  obtain ⟨k111, k112⟩ := hk4 11 _ rfl
  obtain ⟨y, hy⟩ : ∃ y : PN, y = ⟨x.n, some ⟨ga, 0, none⟩, x.n.acl.length, some ⟨gw, 0, none⟩, x.n.words.length⟩ := ⟨_, rfl⟩
  have hyc : ((([.string x.n.path, .bool x.n.dir, .int .i64 x.n.label.s, .int .i64 x.n.label.c, .int .i64 x.n.label.i, .int .i64 x.n.label.k, .slice x.aa x.n.acl.length x.ca, .int .i64 x.n.r1, .int .i64 x.n.r2, .int .i64 x.n.r3, .int .i64 x.n.gates, .slice x.wa x.n.words.length x.cw, .int .i64 x.n.by_.s, .int .i64 x.n.by_.c, .int .i64 x.n.by_.i, .int .i64 x.n.by_.k]).set 6 (.slice (some ⟨ga, 0, none⟩) x.n.acl.length x.n.acl.length)).set 11 (.slice (some ⟨gw, 0, none⟩) x.n.words.length x.n.words.length)) = y.cs := by rw [hy]; rfl
  rw [hyc] at hk5
  have hrow := hk5.range
  obtain ⟨W5, hW5⟩ : ∃ W5, W4.setCell ⟨w.heap.size, 11, none⟩ (.slice (some ⟨gw, 0, none⟩) x.n.words.length x.n.words.length) = W5 := ⟨_, rfl⟩
  rw [hW5] at hm5 hg5 hw5 hB05 hrow
  have hth : W5.there (w.heap.size + 1) 0 y.cs.length := hm5.there
  have hk6 := hm5.setAll (cs := y.cs) rfl
  have hB06 : Below w.heap.size w (W5.setCells (w.heap.size + 1) 0 y.cs) := Below.cells (by omega) y.cs 0 hB05
  have hg6 := hg5.same (heap_setCells_other (b := w.heap.size + 1) (k := ga) (by omega) y.cs 0 W5)
  have hw6 := hw5.same (heap_setCells_other (b := w.heap.size + 1) (k := gw) (by omega) y.cs 0 W5)
  obtain ⟨W6, hW6⟩ : ∃ W6, W5.setCells (w.heap.size + 1) 0 y.cs = W6 := ⟨_, rfl⟩
  rw [hW6] at hk6 hB06 hg6 hw6
  have hyn : y.n = x.n := by rw [hy]
  have hs6 : W4.heap.size ≤ W6.heap.size := by rw [← hW6, ← hW5]; exact (Below.cells (Nat.zero_le _) y.cs 0 ((Below.refl 0 W4).setCell (p := ⟨w.heap.size, 11, none⟩) (Nat.zero_le _) (.slice (some ⟨gw, 0, none⟩) x.n.words.length x.n.words.length))).size
  have hyo : y.Own w.heap.size W6 := by rw [hy]; exact ⟨.inr ⟨ga, rfl, by omega, by omega⟩, .inr ⟨gw, rfl, by omega, by omega⟩⟩
  have hya : y.At W6 := by rw [hy]; exact ⟨hg6, hw6⟩
  clear hy hyc hcs hk4 hm4 hg4 hw4 hB04 hk5 hm5 hg5 hw5 hB05 hB4 hg6 hw6
  go_wp2_with (first | (refine wpList_load_row rfl _ rfl w.heap.size rfl y.cs hrow hund rfl hsz ?_) | (refine wpList_store_row rfl _ _ rfl (w.heap.size + 1) rfl y.cs rfl hth hsz (pn_one y) hW6 ?_) | fail)
  refine bodyPost_ret (v := .agg y.cs.toArray) (results_row1 rfl _ _ (w.heap.size + 1) rfl y.cs hk6.range hund rfl hsz) rfl ?_
  exact ⟨y, rfl, hyn, hya, hyo, hB06⟩
end Go.Proofs.YtacjfbomjglnjaaDoor
