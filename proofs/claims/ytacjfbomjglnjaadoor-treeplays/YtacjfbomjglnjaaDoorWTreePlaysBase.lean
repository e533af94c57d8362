/-
  WHAT TreePlays HOLDS FROM ROUND TO ROUND: a list that stands by its paths, where it lies.
-/
import Derived.Test.YtacjfbomjglnjaaDoorPt6
namespace Go.Proofs.YtacjfbomjglnjaaDoor
open Go.RowKit
set_option maxRecDepth 8000
set_option linter.unusedSimpArgs false
set_option linter.unusedVariables false

def GoodN (d : Nod) : Prop := d.acl.length ≤ 1000 ∧ d.words.length ≤ 1000 ∧ OkPath d.path
theorem okPath_slashed {p : ByteArray} (h : OkPath p) : Slashed p := by
  obtain ⟨ns, e, hn, _⟩ := h
  rw [e]
  exact check_slashed (check_names hn)
structure PL (W : World) (a : Option Addr) (c : Nat) (l : List PN) : Prop where
  row : RowN W a l
  cap : l.length ≤ c
  no : a = none → c = 0
  ord : OrdP l
  good : ∀ d ∈ namesP l, GoodN d
theorem PL.below {W W' : World} {a : Option Addr} {c : Nat} {l : List PN} (h : PL W a c l) (b : Below W.heap.size W W') : PL W' a c l := ⟨h.row.below b, h.cap, h.no, h.ord, h.good⟩
theorem PL.mem {W : World} {a : Option Addr} {c : Nat} {l : List PN} (h : PL W a c l) {x : PN} (hx : x ∈ l) : GoodN x.n := h.good x.n (List.mem_map.2 ⟨x, hx, rfl⟩)
theorem PL.few {W : World} {a : Option Addr} {c : Nat} {l : List PN} (h : PL W a c l) : ∀ x ∈ l, x.Few := fun x hx => ⟨(h.mem hx).1, (h.mem hx).2.1⟩
theorem PL.sl {W : World} {a : Option Addr} {c : Nat} {l : List PN} (h : PL W a c l) : ∀ x ∈ l, Slashed x.n.path := fun x hx => okPath_slashed (h.mem hx).2.2
theorem PL.fits {W : World} {a : Option Addr} {c : Nat} {l : List PN} (h : PL W a c l) : Fits l := fun x hx => ⟨Nat.le_trans (h.few x hx).1 (by decide), Nat.le_trans (h.few x hx).2 (by decide)⟩
theorem tree_good {d : Nod} (h : nodC d = 0) (hp : OkPath d.path) : GoodN d := by
  obtain ⟨_, _, _, hA, hd, hs⟩ := nodC_zero.1 h
  refine ⟨by have := (chkA_few hA).1; omega, ?_, hp⟩
  cases hq : d.dir
  · have := (hs hq).2.2; omega
  · have := (hd hq).2; omega
theorem pl_of {W : World} {b : Nat} {v : Value} {l : List PN} (ho : OwnN W b v l) (hp : ∀ x ∈ l, x.At W) (hord : Ordered (namesP l)) (hg : ∀ d ∈ namesP l, GoodN d) : ∃ a c, v = .slice a l.length c ∧ PL W a c l := by
  obtain ⟨a, c, hv, h1, h2, h3⟩ := OwnR.slice pn_len ho
  exact ⟨a, c, hv, ⟨h3, hp⟩, h1, h2, ordP.1 hord, hg⟩
theorem put_good {L : List Nod} {n : Nod} (h : ∀ d ∈ L, GoodN d) (hn : GoodN n) : ∀ d ∈ putN L n, GoodN d := fun d hd => by
  rcases put_mem.1 hd with rfl | ⟨hd, _⟩
  · exact hn
  · exact h d hd
theorem drop_good {L : List Nod} {p : ByteArray} (h : ∀ d ∈ L, GoodN d) : ∀ d ∈ dropN L p, GoodN d := fun d hd => h d (drop_mem.1 hd).1
/-- The node that is put. -/
def plN (m : Mk) : Nod := ⟨mkPath m, m.dir, goodL m.up, aclOf m.acl, 0, 0, 0, 0, [], goodL m.by_⟩
theorem plN_good (m : Mk) : GoodN (plN m) := ⟨by have := (chkA_few (aclOf_ok m.acl)).1; show (aclOf m.acl).length ≤ 1000; omega, Nat.zero_le _, ok_mk m⟩
/-- A list of none, made. -/
theorem own_empty (W : World) {base : Nat} (hb : base ≤ W.heap.size) : OwnN (W.alloc (.cells #[] 32)) base (.slice (some ⟨W.heap.size, 0, none⟩) 0 0) [] := by
  refine ⟨rfl, .inr ⟨W.heap.size, 0, #[], rfl, hb, heap_alloc_new W _, Nat.le_refl _, by simp only [maxLen]; omega, rfl, rfl⟩⟩
/-- A list, copied by append onto none. -/
theorem was_run {W : World} {a : Option Addr} {c n : Nat} {l : List PN} (h : PL W a c l) (hn : l.length = n) (hl : n ≤ 10000) : ∃ a' c' W', (Builtin.append_ #[22, 22] 22 #[.slice (some ⟨W.heap.size, 0, none⟩) 0 0, .slice a n c]).run Tryd.prog (W.alloc (.cells #[] 32)) = .ok (.slice a' n c') W' ∧ PL W' a' c' l ∧ Below W.heap.size W W' := by
  have hB := alloc_below W (.cells #[] 32)
  have h1 := h.below hB
  have ho := own_empty W (Nat.le_refl W.heap.size)
  obtain ⟨v', W', hap, ho', hg⟩ := OwnR.append_any pn_ok ho (by simp) a n c l hn h1.row.r (fun q => by have h0 := h.no q; have := h.cap; omega) (by simp) (by omega)
  have hb := ho.grew_below (by simp) hg
  obtain ⟨a', c', rfl, hc1, hc2, hr⟩ := OwnR.slice pn_len ho'
  rw [List.nil_append] at hr hc1
  have hBW : Below W.heap.size W W' := hB.trans hb
  refine ⟨a', c', W', by simpa [hn] using hap, ⟨⟨hr, fun x hx => (h.row.p x hx).below hBW⟩, hc1, hc2, h.ord, h.good⟩, hBW⟩
def suchS : ByteArray := ⟨#[115, 117, 99, 104]⟩
def noSuch : ByteArray := ⟨#[47, 110, 111, 47, 115, 117, 99, 104]⟩
theorem such_not {p : ByteArray} (h : OkPath p) : p ≠ noSuch := fun e => by
  have e2 : noSuch = pathB [noS, suchS] := by
    apply bytes_inj
    rw [pathB_bytes (by simp)]
    rfl
  have hn : Names [noS, suchS] := ⟨by simp, fun n hn => by simp at hn; rcases hn with rfl | rfl <;> decide +kernel⟩
  rw [e, e2] at h
  exact path_not hn.flat (b := noS) (by simp) no_not h
theorem PL.not {W : World} {a : Option Addr} {c : Nat} {l : List PN} (h : PL W a c l) : findP l noSuch = none := by
  unfold findP
  exact List.find?_eq_none.2 fun x hx => by
    rw [eqs_ne (such_not (h.mem hx).2.2)]
    decide
end Go.Proofs.YtacjfbomjglnjaaDoor
