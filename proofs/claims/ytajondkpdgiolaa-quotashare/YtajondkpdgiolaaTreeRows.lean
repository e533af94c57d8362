/-
  ROWS OF NODES, AND WHERE THEY LIE; the document's own Find and Drop (donjonref11).
-/
import Derived.Test.YtajondkpdgiolaaTreePure
import Derived.Test.YtajondkpdgiolaaBuild1
import Derived.Test.YtajondkpdgiolaaHeld
namespace Go.Proofs.Ytajondkpdgiolaa
open Go.RowKit
set_option maxRecDepth 8000
set_option linter.unusedSimpArgs false
set_option linter.unusedVariables false

/-- A node's cells, as a list. -/
def nclT (n : Nod) (aa : Option Addr) (ca : Nat) (wa : Option Addr) (cw : Nat) : List Value := [.string n.path, .bool n.dir, .int .i64 n.label.s, .int .i64 n.label.c, .int .i64 n.label.i, .int .i64 n.label.k, .slice aa n.acl.length ca, .int .i64 n.r1, .int .i64 n.r2, .int .i64 n.r3, .int .i64 n.gates, .slice wa n.words.length cw, .int .i64 n.by_.s, .int .i64 n.by_.c, .int .i64 n.by_.i, .int .i64 n.by_.k]
/-- A node, and where its rows lie. -/
structure PN where
  n : Nod
  aa : Option Addr
  ca : Nat
  wa : Option Addr
  cw : Nat
def PN.cs (x : PN) : List Value := nclT x.n x.aa x.ca x.wa x.cw
theorem pn_len (x : PN) : x.cs.length = 16 := rfl
theorem pn_one (x : PN) : ∀ v ∈ x.cs, v.oneCell' = true := by
  intro v hv
  unfold PN.cs nclT at hv
  simp only [List.mem_cons, List.not_mem_nil, or_false] at hv
  rcases hv with rfl | rfl | rfl | rfl | rfl | rfl | rfl | rfl | rfl | rfl | rfl | rfl | rfl | rfl | rfl | rfl <;> rfl
theorem pn_ok : ElemOk 36 27 16 PN.cs :=
  ⟨Try.underlying27, by
    obtain ⟨i, h1, h2, h3, h4⟩ := info_of (e := 36) (z := .agg #[.string ⟨#[]⟩, .bool false, .int .i64 0, .int .i64 0, .int .i64 0, .int .i64 0, .slice none 0 0, .int .i64 0, .int .i64 0, .int .i64 0, .int .i64 0, .slice none 0 0, .int .i64 0, .int .i64 0, .int .i64 0, .int .i64 0]) (sz := 16) (b := 168) (by kernel_rfl)
    exact ⟨i, _, _, h1, h2, h3, h4, rfl, by omega⟩, by omega, pn_len, pn_one⟩
structure PN.At (W : World) (x : PN) : Prop where
  g : GrsAt W x.aa x.n.acl
  w : WrdsAt W x.wa x.n.words
theorem PN.At.below {W W' : World} {x : PN} (h : x.At W) (b : Below W.heap.size W W') : x.At W' := ⟨h.g.below b, h.w.below b⟩
/-- Nodes one behind the other, each with its rows. -/
structure RowN (W : World) (a : Option Addr) (l : List PN) : Prop where
  r : RowAt 16 PN.cs W a l
  p : ∀ x ∈ l, x.At W
theorem RowN.below {W W' : World} {a : Option Addr} {l : List PN} (h : RowN W a l) (b : Below W.heap.size W W') : RowN W' a l := ⟨h.r.below pn_len b, fun x hx => (h.p x hx).below b⟩
abbrev OwnN (W : World) (base : Nat) (v : Value) (l : List PN) : Prop := OwnR 36 16 PN.cs W base v l
def namesP (l : List PN) : List Nod := l.map (·.n)
def findP (l : List PN) (p : ByteArray) : Option PN := l.find? fun x => eqs x.n.path p
def dropP (l : List PN) (p : ByteArray) : List PN := l.filter fun x => !eqs x.n.path p
def putP (l : List PN) (x : PN) : List PN := (dropP l x.n.path).takeWhile (fun y => lt y.n.path x.n.path) ++ x :: (dropP l x.n.path).dropWhile (fun y => lt y.n.path x.n.path)
def underP (l : List PN) (p : ByteArray) : List ByteArray := (l.filter fun x => isUnder p x.n).map fun x => lastOf x.n.path
theorem find_names (l : List PN) (p : ByteArray) : findN (namesP l) p = (findP l p).map (·.n) := by
  unfold findN findP namesP
  rw [List.find?_map]
  rfl
theorem drop_names (l : List PN) (p : ByteArray) : namesP (dropP l p) = dropN (namesP l) p := by
  unfold dropN dropP namesP
  rw [List.filter_map]
  rfl
theorem under_names (l : List PN) (p : ByteArray) : underP l p = underN (namesP l) p := by
  unfold underP underN namesP
  rw [List.filter_map, List.map_map]
  rfl
theorem put_names (l : List PN) (x : PN) : namesP (putP l x) = putN (namesP l) x.n := by
  unfold putN putP
  rw [← drop_names]
  unfold namesP
  rw [List.map_append, List.map_cons, List.takeWhile_map, List.dropWhile_map]
  rfl
theorem put_sub {l : List PN} {x y : PN} (h : y ∈ putP l x) : y = x ∨ y ∈ l := by
  unfold putP at h
  rw [List.mem_append, List.mem_cons] at h
  rcases h with h | h | h
  · exact .inr (List.mem_filter.1 (List.Sublist.subset (List.takeWhile_sublist _) h)).1
  · exact .inl h
  · exact .inr (List.mem_filter.1 (List.Sublist.subset (List.dropWhile_sublist _) h)).1
/-- The node that is none. -/
def zeroP : PN := ⟨⟨⟨#[]⟩, false, ⟨0, 0, 0, 0⟩, [], 0, 0, 0, 0, [], ⟨0, 0, 0, 0⟩⟩, none, 0, none, 0⟩
def foundCs (o : Option PN) : List Value := (o.getD zeroP).cs
theorem RowN.path {W : World} {y : Addr} {l : List PN} (h : RowN W (some y) l) {i : Nat} {x : PN} (hx : l[i]? = some x) : W.cell? (y.add (i * 16)) = some (.string x.n.path) := by
  have := h.r.at pn_len hx 0 _ rfl
  exact this
theorem RowN.some_ {W : World} {a : Option Addr} {l : List PN} (h : RowN W a l) {i : Nat} {x : PN} (hx : l[i]? = some x) : ∃ y, a = some y := by
  obtain ⟨y, hy, -⟩ := h.r i x hx
  exact ⟨y, hy⟩
theorem find_drop {l : List PN} {p : ByteArray} {i : Nat} {x : PN} (hx : l[i]? = some x) : (l.drop i).find? (fun x => eqs x.n.path p) = if eqs x.n.path p = true then some x else (l.drop (i + 1)).find? (fun x => eqs x.n.path p) := by
  have h1 := List.getElem?_eq_some_iff.1 hx
  rw [List.drop_eq_getElem_cons h1.1, h1.2, List.find?_cons]
  cases eqs x.n.path p <;> rfl

set_option maxHeartbeats 2000000 in
theorem rfindT_any (a : Option Addr) (cap : Nat) (l : List PN) (p : ByteArray) (hl : l.length ≤ 1000000) (w : World) (h : RowN w a l) :
    Calls Try.prog 24 #[.slice a l.length cap, .string p] w fun e w' => e = .returned (.tuple #[.agg (foundCs (findP l p)).toArray, .bool (findP l p).isSome]) ∧ Below w.heap.size w w' := by
  obtain ⟨fr, hfr⟩ : ∃ fr, findP l p = fr := ⟨_, rfl⟩
  rw [hfr]
  replace hfr : Aside (findP l p = fr) := hfr
  have hund := Try.underlying36
  have hsz : (Try.prog.info? 36).map (·.size) = some 16 := by kernel_rfl
  obtain ⟨n, hn⟩ : ∃ n, l.length = n := ⟨_, rfl⟩
  rw [hn] at hl ⊢
  replace hn : Aside (l.length = n) := hn
  have hb0 := blk_alloc w zeroP.cs.toArray 36
  have hB0 := alloc_below w (.cells zeroP.cs.toArray 36)
  have hz0 : zeroP.cs = [.string ⟨#[]⟩, .bool false, .int .i64 0, .int .i64 0, .int .i64 0, .int .i64 0, .slice none 0 0, .int .i64 0, .int .i64 0, .int .i64 0, .int .i64 0, .slice none 0 0, .int .i64 0, .int .i64 0, .int .i64 0, .int .i64 0] := rfl
  rw [hz0] at hb0 hB0
  go_enter Try.func24, Try.ntmps24
  go_wp2_with fail
  have hrow := h.below hB0
  generalize w.alloc (.cells #[.string ⟨#[]⟩, .bool false, .int .i64 0, .int .i64 0, .int .i64 0, .int .i64 0, .slice none 0 0, .int .i64 0, .int .i64 0, .int .i64 0, .int .i64 0, .slice none 0 0, .int .i64 0, .int .i64 0, .int .i64 0, .int .i64 0] 36) = W at *
  go_loopw [6] (fun t6 wr => ∃ i : Nat, i ≤ n ∧ t6 = .int .i64 (i : Int) ∧ Aside ((l.drop i).find? (fun x => eqs x.n.path p) = fr) ∧ wr = W) (fun t6 _ => n - (Go.RowKit.intOf t6).toNat)
  case atStart => exact ⟨0, by omega, rfl, hfr.out, rfl⟩
  case round =>
    obtain ⟨i, hi, rfl, hf, rfl⟩ := hrel
    by_cases hlt : i < n
    · obtain ⟨x, hx⟩ : ∃ x, l[i]? = some x := ⟨_, List.getElem?_eq_getElem (by rw [hn.out]; exact hlt)⟩
      obtain ⟨y, rfl⟩ := hrow.some_ hx
      have hc := hrow.path hx
      have hw := hrow.r.at pn_len hx
      rw [find_drop hx] at hf
      cases he : eqs x.n.path p
      · rw [if_neg (by rw [he]; decide)] at hf
        have f0 : (x.n.path.toList == p.toList) = false := by exact he
        clear hw hx
        go_wp2_with fail
        exact ⟨⟨i + 1, by omega, by simp, hf, trivial⟩, by simp [Go.RowKit.intOf]; omega⟩
      · rw [if_pos he] at hf
        have f0 : (x.n.path.toList == p.toList) = true := by exact he
        obtain rfl := hf.out
        obtain ⟨cs, hcs⟩ : ∃ cs, x.cs = cs := ⟨_, rfl⟩
        have hlen : cs.length = 16 := by rw [← hcs]; rfl
        have hone : ∀ v ∈ cs, v.oneCell' = true := by rw [← hcs]; exact pn_one x
        rw [hcs] at hw
        replace hcs : Aside (x.cs = cs) := hcs
        have ht : wr.there w.heap.size 0 cs.length := by rw [hlen]; exact hb0.there
        have hk := hb0.setAll (cs := cs) (by rw [hlen]; rfl)
        have hBz : Below w.heap.size w (wr.setCells w.heap.size 0 cs) := Below.cells (Nat.le_refl _) cs 0 hB0
        obtain ⟨W2, hW2⟩ : ∃ W', wr.setCells w.heap.size 0 cs = W' := ⟨_, rfl⟩
        rw [hW2] at hk hBz
        rw [← hlen] at hsz
        clear hx hlen hb0
        go_wp2_with (first | (refine wpList_load_at rfl _ rfl (y.add (i * 16)) rfl cs hw hund rfl hsz ?_) | (refine wpList_store_row rfl _ _ rfl w.heap.size rfl cs rfl ht hsz hone hW2 ?_) | fail)
        refine bodyPost_ret (v := .tuple #[.agg cs.toArray, .bool true]) (results_row2 rfl _ _ w.heap.size rfl (.bool true) rfl cs hk.range hund rfl hsz) rfl ?_
        refine ⟨?_, hBz⟩
        unfold foundCs
        rw [← hcs.out]
        rfl
    · obtain rfl : i = n := by omega
      have hf' : fr = none := by
        have := hf.out
        rw [List.drop_eq_nil_of_le (by rw [hn.out]; exact Nat.le_refl _)] at this
        exact this.symm
      subst hf'
      have hk := hb0.setAll (cs := zeroP.cs) rfl
      have hBz : Below w.heap.size w (wr.setCells w.heap.size 0 zeroP.cs) := Below.cells (Nat.le_refl _) zeroP.cs 0 hB0
      have ht : wr.there w.heap.size 0 zeroP.cs.length := hb0.there
      obtain ⟨W2, hW2⟩ : ∃ W', wr.setCells w.heap.size 0 zeroP.cs = W' := ⟨_, rfl⟩
      rw [hW2] at hk hBz
      clear hb0
      go_wp2_with (first | (refine wpList_store_row rfl _ _ rfl w.heap.size rfl zeroP.cs rfl ht hsz (pn_one zeroP) hW2 ?_) | fail)
      refine bodyPost_ret (v := .tuple #[.agg zeroP.cs.toArray, .bool false]) (results_row2 rfl _ _ w.heap.size rfl (.bool false) rfl zeroP.cs hk.range hund rfl hsz) rfl ?_
      exact ⟨rfl, hBz⟩
theorem filter_take {α : Type} (f : α → Bool) (l : List α) {i : Nat} {x : α} (h : l[i]? = some x) : (l.take (i + 1)).filter f = (l.take i).filter f ++ (if f x = true then [x] else []) := by
  rw [List.take_add_one, h, List.filter_append]
  congr 1
  simp only [Option.toList]
  rw [List.filter_cons]
  rfl
set_option maxHeartbeats 2000000 in
theorem rdropT_any (a : Option Addr) (cap : Nat) (l : List PN) (p : ByteArray) (hl : l.length ≤ 100000) (w : World) (h : RowN w a l) :
    Calls Try.prog 41 #[.slice a l.length cap, .string p] w fun e w' => ∃ v, e = .returned v ∧ OwnN w' w.heap.size v (dropP l p) ∧ Below w.heap.size w w' := by
  have hund := Try.underlying36
  have hsz : (Try.prog.info? 36).map (·.size) = some 16 := by kernel_rfl
  obtain ⟨n, hn⟩ : ∃ n, l.length = n := ⟨_, rfl⟩
  rw [hn] at hl ⊢
  replace hn : Aside (l.length = n) := hn
  have hfl : ∀ i, ((l.take i).filter fun x => !eqs x.n.path p).length ≤ n := fun i => Nat.le_trans (List.length_filter_le _ _) (by rw [List.length_take, hn.out]; omega)
  go_enter Try.func41, Try.ntmps41
  go_wp2_with fail
  go_loopw [5, 6] (fun t5 t6 wr => ∃ i : Nat, i ≤ n ∧ t6 = .int .i64 (i : Int) ∧ OwnN wr w.heap.size t5 ((l.take i).filter fun x => !eqs x.n.path p) ∧ Below w.heap.size w wr) (fun _ t6 _ => n - (Go.RowKit.intOf t6).toNat)
  case atStart => exact ⟨0, by omega, rfl, by simpa using OwnR.nil _ _ _ _ _, Below.refl _ _⟩
  case round =>
    obtain ⟨i, hi, rfl, ho, hB⟩ := hrel
    by_cases hlt : i < n
    · obtain ⟨x, hx⟩ : ∃ x, l[i]? = some x := ⟨_, List.getElem?_eq_getElem (by rw [hn.out]; exact hlt)⟩
      have hrow := h.below hB
      obtain ⟨y, rfl⟩ := h.some_ hx
      have hc := hrow.path hx
      have hw := hrow.r.at pn_len hx
      have hft := filter_take (fun x : PN => !eqs x.n.path p) l hx
      cases he : eqs x.n.path p
      · rw [if_pos (by rw [he]; rfl)] at hft
        have f0 : (x.n.path.toList == p.toList) = false := by exact he
        obtain ⟨v2, W2, hap, ho2, hg2⟩ := OwnR.push pn_ok ho hB.size x x.cs.toArray rfl 36 (by have := hfl i; omega)
        have hb2 := ho.grew_below hB.size hg2
        rw [← hft] at ho2
        obtain ⟨cs, hcs⟩ : ∃ cs, x.cs = cs := ⟨_, rfl⟩
        have hlen : cs.length = 16 := by rw [← hcs]; rfl
        rw [hcs] at hw hap
        rw [← hlen] at hsz
        clear hcs hft hx
        go_wp2_with (first | (refine wpList_load_at rfl _ rfl (y.add (i * 16)) rfl cs hw hund rfl hsz ?_) | (refine wpList_build1 pn_ok (by decide) rfl _ rfl cs rfl hlen ?_) | (refine wpList_append rfl _ _ rfl rfl rfl rfl hap ?_) | fail)
        exact ⟨⟨i + 1, by omega, by simp, ho2, hB.trans hb2⟩, by simp [Go.RowKit.intOf]; omega⟩
      · rw [if_neg (by rw [he]; decide), List.append_nil] at hft
        have f0 : (x.n.path.toList == p.toList) = true := by exact he
        rw [← hft] at ho
        clear hw hx
        go_wp2_with fail
        exact ⟨⟨i + 1, by omega, by simp, ho, hB⟩, by simp [Go.RowKit.intOf]; omega⟩
    · obtain rfl : i = n := by omega
      rw [List.take_of_length_le (by rw [hn.out]; exact Nat.le_refl _)] at ho
      go_wp2_with fail
      go_ret
      exact ⟨_, rfl, ho, hB⟩
end Go.Proofs.Ytajondkpdgiolaa
