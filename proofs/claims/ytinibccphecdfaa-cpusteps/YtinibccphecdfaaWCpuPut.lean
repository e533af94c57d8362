/-
  A WORD WRITTEN INTO A COPY OF A MEMORY, as the laws of chapter 16 do it.
-/
import Derived.Test.YtinibccphecdfaaWCpuLaw3
import Derived.Laws.OwnMore
namespace Go.Proofs.Ytinibccphecdfaa
open Go.RowKit
set_option maxRecDepth 8000
set_option linter.unusedSimpArgs false
set_option linter.unusedVariables false

theorem flat_set {α : Type} {f : α → List Value} {n : Nat} (hf : ∀ a, (f a).length = n) : ∀ (l : List α) (j o : Nat) (x y : α) (u : Value), l[j]? = some x → o < n → (f x).set o u = f y → (l.flatMap f).set (j * n + o) u = (l.set j y).flatMap f
  | [], _, _, _, _, _, h, _, _ => by simp at h
  | b :: r, 0, o, x, y, u, h, ho, he => by
    simp at h
    subst h
    rw [List.set_cons_zero, List.flatMap_cons, List.flatMap_cons, Nat.zero_mul, Nat.zero_add, List.set_append_left _ _ (by rw [hf]; exact ho), he]
  | b :: r, j + 1, o, x, y, u, h, ho, he => by
    simp at h
    rw [List.set_cons_succ, List.flatMap_cons, List.flatMap_cons, List.set_append_right _ _ (by rw [hf, Nat.succ_mul]; omega), hf, show (j + 1) * n + o - n = j * n + o by rw [Nat.succ_mul]; omega]
    rw [flat_set hf r j o x y u h ho he]
theorem OwnR.form {α : Type} {e : TypeId} {sz base : Nat} {f : α → List Value} {w : World} {v : Value} {l : List α} (h : OwnR e sz f w base v l) (hl : 0 < l.length) : ∃ g cap, v = .slice (some ⟨g, 0, none⟩) l.length cap ∧ base ≤ g ∧ g < w.heap.size := by
  rcases h.2 with ⟨rfl, h0⟩ | ⟨g, cap, cur, hv, hb, _⟩
  · omega
  · exact ⟨g, cap, hv, hb, (h.lt (show v.ownBlock = some g by rw [hv]; rfl)).2⟩
theorem OwnR.stored {α : Type} {e : TypeId} {sz base g n cap : Nat} {f : α → List Value} {w : World} {l : List α} (hf : ∀ a, (f a).length = sz) (h : OwnR e sz f w base (.slice (some ⟨g, 0, none⟩) n cap) l) (hn : n = l.length) {j o : Nat} {x y : α} {u : Value} (hx : l[j]? = some x) (ho : o < sz) (he : (f x).set o u = f y) :
    OwnR e sz f (w.setCell ⟨g, j * sz + o, none⟩ u) base (.slice (some ⟨g, 0, none⟩) n cap) (l.set j y) ∧ Sole g w (w.setCell ⟨g, j * sz + o, none⟩ u) ∧ w.frozen? ⟨g, j * sz + o, none⟩ = false ∧ ∃ z, w.cell? ⟨g, j * sz + o, none⟩ = some z := by
  subst hn
  have h1 := World.ownsRow.stored (show w.ownsRow base e sz (.slice (some ⟨g, 0, none⟩) l.length cap) l.length (l.flatMap f) from h) (j * sz + o) u
  refine ⟨?_, ⟨rfl, rfl, rfl, by simp, fun q hq hne => heap_setCell_other _ ⟨g, j * sz + o, none⟩ q _ hne⟩, World.ownsRow.frozenAt (show w.ownsRow base e sz (.slice (some ⟨g, 0, none⟩) l.length cap) l.length (l.flatMap f) from h) _, ?_⟩
  · have h2 := h1.1
    rw [flat_set hf l j o x y u hx ho he] at h2
    unfold OwnR
    rw [List.length_set]
    exact h2
  · obtain ⟨a, c, hv, -, -, hr⟩ := h.slice hf
    injection hv with e1 e2 e3
    subst e1
    obtain ⟨y', hy', hc⟩ := hr j x hx
    injection hy' with hy'
    subst hy'
    have := hc o ho
    rw [add_at, List.getElem?_eq_getElem (by rw [hf]; exact ho)] at this
    exact ⟨_, this⟩
theorem MV.row {M : List PG} {W : World} {a : Option Addr} {n cap : Nat} (h : MV (.slice a n cap) M W) : RowG W a M := by
  obtain ⟨a', cap', hv, hr, hm, hn⟩ := h
  injection hv with e1 e2 e3
  rw [e1]
  exact hr
theorem kn_is {m : List PG} {k : Int} (h : (kn (m.map (·.g)) k).is = true) : ∃ (j : Nat) (x : PG), k = (j : Int) ∧ j < m.length ∧ m[j]? = some x ∧ x.g = kn (m.map (·.g)) k := by
  unfold kn at h ⊢
  by_cases hk : k < 0
  · rw [if_pos hk] at h
    cases h
  rw [if_neg hk] at h ⊢
  rw [List.getD_eq_getElem?_getD, List.getElem?_map] at h ⊢
  cases hx : m[k.toNat]? with
  | none => rw [hx] at h; cases h
  | some x =>
    exact ⟨k.toNat, x, by omega, (List.getElem?_eq_some_iff.1 hx).1, hx, rfl⟩
theorem StAt.pr {b : Nat} {c : Cp} {v : Value} {W : World} (h : StAt b c v W) {k : Nat} (hk : k < 4) : W.cell? ⟨b, 4 + k * 3 + 2, none⟩ = some (.int .i64 (pAt c (k : Int)).r) := by
  have h1 := h.ptr hk 2 (.int .i64 (c.ps.getD k ⟨0, 0, 0⟩).r) rfl
  unfold pAt
  rw [Int.toNat_natCast]
  exact h1
theorem i64C_store (w : World) (y : Addr) (u : Value) (v : Int) (hc : w.cell? y = some u) (hf : w.frozen? y = false) : (Instr.storeAt 2 (.pointer (some y)) (.int .i64 v)).run Try.prog w = .ok () (w.setCell y (.int .i64 v)) := by
  have h1 := Try.underlying2
  go_simp
def putX (x : PG) (jo : Nat) (y : Int) (gc cap : Nat) : PG := ⟨{ x.g with ws := x.g.ws.set jo y }, some ⟨gc, 0, none⟩, cap⟩
theorem putX_cs (x : PG) (jo : Nat) (y : Int) (gc cap : Nat) : x.cs.set 1 (.slice (some ⟨gc, 0, none⟩) x.g.ws.length cap) = (putX x jo y gc cap).cs := by
  unfold putX PG.cs sgCs PG.v
  simp
theorem putX_ok {L : List PG} (hk : ∀ g ∈ L.map (·.g), g.Ok) {ks : Nat} {x : PG} (hx : L[ks]? = some x) {y : Int} (hy : -9223372036854775808 ≤ y ∧ y ≤ 9223372036854775807) (jo gc cap : Nat) : ∀ g ∈ (L.set ks (putX x jo y gc cap)).map (·.g), g.Ok := fun g hg => by
  obtain ⟨z, hz, rfl⟩ := List.mem_map.1 hg
  rcases List.mem_or_eq_of_mem_set hz with h | h
  · exact hk _ (List.mem_map_of_mem h)
  · have hok := hk _ (List.mem_map_of_mem (List.mem_of_getElem? hx))
    rw [h]
    refine ⟨hok.rg, fun q hq => ?_, by show (x.g.ws.set jo y).length ≤ 1000; rw [List.length_set]; exact hok.len⟩
    rcases List.mem_or_eq_of_mem_set hq with h2 | h2
    · exact hok.ws q h2
    · rw [h2]; exact hy
theorem mvr_put {bs B1 B2 gc capc gm capm : Nat} {W : World} {vL : Value} {L : List PG} (hMR : MVR bs vL L W) (hk : ∀ g ∈ L.map (·.g), g.Ok) {ks jo : Nat} {x : PG} {y : Int} (hx : L[ks]? = some x) (hy : -9223372036854775808 ≤ y ∧ y ≤ 9223372036854775807)
    (hc : OwnR 2 1 wcl W B1 (.slice (some ⟨gc, 0, none⟩) x.g.ws.length capc) (x.g.ws.set jo y)) (hm : OwnR 57 7 PG.cs W B2 (.slice (some ⟨gm, 0, none⟩) L.length capm) (L.set ks (putX x jo y gc capc))) (h1 : bs < B1) (h2 : bs < B2) :
    MVR bs (.slice (some ⟨gm, 0, none⟩) L.length capm) (L.set ks (putX x jo y gc capc)) W := fun W' hW => by
  have hm' := hW.own hm (fun q => by have := (hm.lt q).1; omega)
  have hc' := hW.own hc (fun q => by have := (hc.lt q).1; omega)
  have hMV := hMR W' hW
  have hG := hMV.mg
  obtain ⟨a, cap, hv, -, hn, hr⟩ := hm'.slice pg_len
  rw [List.length_set] at hv
  injection hv with e1 e2 e3
  subst e1 e3
  refine ⟨_, _, by rw [List.length_set], ⟨hr, fun z hz => ?_⟩, ⟨by rw [List.length_set]; exact hG.len, fun z hz => putX_ok hk hx hy jo gc capc _ (List.mem_map_of_mem hz), fun z hz => ?_⟩, fun q => by cases q⟩
  · rcases List.mem_or_eq_of_mem_set hz with h | h
    · obtain ⟨a', cap', -, hr', -⟩ := hMV
      exact hr'.at_ z h
    · rw [h]
      obtain ⟨a3, c3, hv3, -, -, hr3⟩ := hc'.slice wd_okC.len
      injection hv3 with q1 q2 q3
      subst q1
      exact hr3
  · rcases List.mem_or_eq_of_mem_set hz with h | h
    · exact hG.cap z h
    · rw [h]
      intro q
      cases q
end Go.Proofs.Ytinibccphecdfaa
