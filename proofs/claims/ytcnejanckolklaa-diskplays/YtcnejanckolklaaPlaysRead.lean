/-
  THE DOCUMENT'S OWN DISK: New, at, Read.
-/
import Derived.Test.YtcnejanckolklaaPlaysBase
import Derived.Test.YtcnejanckolklaaStaysBytes
namespace Go.Proofs.Ytcnejanckolklaa
open Go.RowKit Go.Maps
set_option linter.unusedSimpArgs false

section
variable {w w' : World} {F : List Nat} {xb : Nat} {v : Value} {N : Nat} {es : List Sc} {done left : Int} {dead : Bool}

/-- Where a sector is, or would be. -/
structure Place (es : List Sc) (n : Int) (k : Nat) : Prop where
  le : k ≤ es.length
  lo : ∀ j e, j < k → es[j]? = some e → e.n < n
  hi : ∀ e, es[k]? = some e → n ≤ e.n

set_option maxHeartbeats 1000000 in
theorem at_any (h : RefAt w F xb v N es done left dead) (n : Int) :
    Calls Try.prog 24 #[.pointer (some ⟨xb, 0, none⟩), .int .i64 n] w fun e w' => ∃ k : Nat, e = .returned (.int .i64 (k : Int)) ∧ Place es n k ∧ w' = w := by
  obtain ⟨len, hlen⟩ : ∃ len, es.length = len := ⟨_, rfl⟩
  obtain ⟨a, cap, rfl⟩ := h.slice hlen
  have c1 := h.c1
  have hfew := h.few
  rw [hlen] at hfew
  go_enter Try.func24, Try.ntmps24
  go_wp2_with fail
  go_loopw [5] (fun t5 wr => ∃ k : Nat, k ≤ len ∧ t5 = .int .i64 (k : Int) ∧ wr = w ∧ ∀ j e, j < k → es[j]? = some e → e.n < n) (fun t5 _ => len - (Go.RowKit.intOf t5).toNat)
  case atStart => exact ⟨0, by omega, rfl, rfl, fun j e hj => by omega⟩
  case round =>
    obtain ⟨k, hk, rfl, rfl, hlo⟩ := hrel
    by_cases hlt : k < len
    · obtain ⟨e, he⟩ : ∃ e, es[k]? = some e := ⟨_, List.getElem?_eq_getElem (by omega)⟩
      obtain ⟨g, cap', hv, s0, s1, s2, s3, fz, hgx⟩ := h.sect hlen he
      injection hv with h1 h2 h3
      subst h1 h3
      by_cases hn : e.n < n
      · go_wp2_with fail
        refine ⟨⟨k + 1, by omega, by simp, by simp, fun j x hj hx => ?_⟩, by simp [Go.RowKit.intOf]; omega⟩
        by_cases hjk : j = k
        · subst hjk; rw [he] at hx; cases hx; exact hn
        · exact hlo j x (by omega) hx
      · go_wp2_with fail
        go_ret
        exact ⟨k, rfl, ⟨by omega, hlo, fun x hx => by rw [he] at hx; cases hx; omega⟩, rfl⟩
    · go_wp2_with fail
      go_ret
      exact ⟨k, rfl, ⟨by omega, hlo, fun x hx => by have := (List.getElem?_eq_some_iff.1 hx).1; omega⟩, rfl⟩

theorem rread_dead (h : RefAt w F xb v N es done left true) (n : Int) :
    Calls Try.prog 12 #[.pointer (some ⟨xb, 0, none⟩), .int .i64 n] w fun e w' => e = .returned (.tuple #[.slice none 0 0, .int .i64 12]) ∧ w' = w := by
  have c4 := h.c4
  go_enter Try.func12, Try.ntmps12
  go_wp2
  exact bodyPost_ret (v := .tuple #[.slice none 0 0, .int .i64 12]) (by simp [results, Try.results12, go_sem]) rfl ⟨rfl, rfl⟩
theorem rread_refuses (h : RefAt w F xb v N es done left false) (n : Int) (hno : n < 0 ∨ (N : Int) ≤ n) :
    Calls Try.prog 12 #[.pointer (some ⟨xb, 0, none⟩), .int .i64 n] w fun e w' => e = .returned (.tuple #[.slice none 0 0, .int .i64 1]) ∧ w' = w := by
  have c4 := h.c4
  have c0 := h.c0
  by_cases h0 : n < 0
  · go_enter Try.func12, Try.ntmps12
    go_wp2
    exact bodyPost_ret (v := .tuple #[.slice none 0 0, .int .i64 1]) (by simp [results, Try.results12, go_sem]) rfl ⟨rfl, rfl⟩
  · have h1 : (N : Int) ≤ n := by omega
    go_enter Try.func12, Try.ntmps12
    go_wp2
    exact bodyPost_ret (v := .tuple #[.slice none 0 0, .int .i64 1]) (by simp [results, Try.results12, go_sem]) rfl ⟨rfl, rfl⟩

/-- A sector as the document's disk tells it. -/
def toldBy (es : List Sc) (n : Int) : List Int := match es.find? (fun e => e.n == n) with | some e => e.last | none => zeros
theorem told_at {n : Int} {k : Nat} {e : Sc} (p : Place es n k) (he : es[k]? = some e) (hn : e.n = n) : toldBy es n = e.last := by
  have : es.find? (fun e => e.n == n) = some e := by
    rw [List.find?_eq_some_iff_getElem]
    refine ⟨by simpa using hn, k, (List.getElem?_eq_some_iff.1 he).1, (List.getElem?_eq_some_iff.1 he).2, fun j hj => ?_⟩
    have hjl : j < es.length := by have := (List.getElem?_eq_some_iff.1 he).1; omega
    have := p.lo j es[j] hj (List.getElem?_eq_getElem _)
    simp; omega
  simp [toldBy, this]
theorem told_none {n : Int} {k : Nat} (p : Place es n k) (hr : es.Pairwise (fun a b => a.n < b.n)) (hno : ∀ e, es[k]? = some e → e.n ≠ n) : toldBy es n = zeros := by
  have : es.find? (fun e => e.n == n) = none := by
    rw [List.find?_eq_none]
    intro e he
    obtain ⟨j, hj, rfl⟩ := List.mem_iff_getElem.1 he
    simp
    by_cases h1 : j < k
    · have := p.lo j es[j] h1 (List.getElem?_eq_getElem _); omega
    · by_cases h2 : j = k
      · subst h2; exact hno _ (List.getElem?_eq_getElem _)
      · have hk : k < es.length := by omega
        have a1 := p.hi es[k] (List.getElem?_eq_getElem _)
        have a2 := List.pairwise_iff_getElem.1 hr k j hk hj (by omega)
        omega
  simp [toldBy, this]

theorem empty_bytes (w : World) : BytesAt (w.alloc (.cells #[] 5)) w.heap.size 0 [] :=
  ⟨fun j v hv => by simp [cellsOf] at hv, fun j hj => by omega, rfl, by simp, by simp⟩

theorem zeros_bytes (w : World) : BytesAt (w.alloc (.cells (rowOf zeros) 5)) w.heap.size 128 zeros := by
  have hr : (w.alloc (.cells (rowOf zeros) 5)).heap[w.heap.size]? = some (.cells (rowOf zeros) 5 (0, 0)) := heap_alloc_new w _
  refine ⟨row_range hr, fun j hj => ⟨?_, row_frozen hr _⟩, zeros_sec.1, zeros_sec.2, by simp⟩
  rw [Nat.zero_add, row_cell hr j (by rw [zeros_sec.1]; exact hj)]
  rfl

set_option maxHeartbeats 2000000 in
theorem rread_any (h : RefAt w F xb v N es done left false) (n : Int) (h0 : 0 ≤ n) (h1 : n < N) (hr : es.Pairwise (fun a b => a.n < b.n)) :
    Calls Try.prog 12 #[.pointer (some ⟨xb, 0, none⟩), .int .i64 n] w fun e w' => ∃ g cap, e = .returned (.tuple #[.slice (some ⟨g, 0, none⟩) 128 cap, .int .i64 0]) ∧ BytesAt w' g 128 (toldBy es n) ∧ Kept [] w w' := by
  obtain ⟨len, hlen⟩ : ∃ len, es.length = len := ⟨_, rfl⟩
  obtain ⟨a, cap, rfl⟩ := h.slice hlen
  have c4 := h.c4
  have c0 := h.c0
  have c1 := h.c1
  have ca := at_any h n
  have hfew := h.few
  have hmk := make_bytes w
  rw [hlen] at hfew
  go_enter Try.func12, Try.ntmps12
  go_wp2_with fail
  refine ca.mono ?_
  rintro e w1 ⟨k, rfl, p, rfl⟩
  have hk := p.le
  by_cases hlt : k < len
  · obtain ⟨e, he⟩ : ∃ e, es[k]? = some e := ⟨_, List.getElem?_eq_getElem (by omega)⟩
    obtain ⟨g, cap', hv, s0, s1, s2, s3, fz, hgx⟩ := h.sect hlen he
    injection hv with q1 q2 q3
    subst q1 q3
    by_cases hn : e.n = n
    · have hnb : (e.n == n) = true := by simp [hn]
      have ht := told_at p he hn
      obtain ⟨b1, o1, b2, o2, f1, f2⟩ := h.bytes e (List.mem_of_getElem? he)
      have k0 : Kept [] w1 (w1.alloc (.cells #[] 5)) := Kept.of_alloc [] w1 _
      have b2' := b2.kept k0 (by simp)
      have h' := h.kept k0 (by simp)
      have c1' := h'.c1
      obtain ⟨_, _, t2, _, _, _⟩ := h'.sect' he
      obtain ⟨gr, cr, W', hap, hbr, hkr, _, _⟩ := append_any2 (w1.alloc (.cells #[] 5)) w1.heap.size 0 [] (empty_bytes w1) (some ⟨e.lg, 0, none⟩) 128 e.lc e.last b2'.size (by omega) (fun j hj => ⟨_, rfl, by
        rw [Addr.add_mid]
        refine b2'.cells j _ ?_
        have hj' : j < e.last.length := by rw [b2'.size]; exact hj
        simp [cellsOf, hj']⟩) (by simp) b2'.ok
      simp only [Nat.zero_add, List.nil_append] at hap hbr
      go_wp2_with (first
        | (refine wpList_append_to rfl _ _ rfl rfl rfl rfl hap ?_)
        | fail)
      exact bodyPost_ret (v := .tuple #[.slice (some ⟨gr, 0, none⟩) 128 cr, .int .i64 0]) (by simp [results, Try.results12, go_sem]) rfl ⟨gr, cr, rfl, by rw [ht]; exact hbr, k0.trans hkr⟩
    · have hnb : (e.n == n) = false := by simp [hn]
      have ht := told_none p hr (fun x hx => by rw [he] at hx; cases hx; exact hn)
      go_wp2_with fail
      exact bodyPost_ret (v := .tuple #[.slice (some ⟨w1.heap.size, 0, none⟩) 128 128, .int .i64 0]) (by simp [results, Try.results12, go_sem]) rfl ⟨_, _, rfl, by rw [ht]; exact zeros_bytes w1, Kept.of_alloc [] w1 _⟩
  · have ht := told_none p hr (fun x hx => by have := (List.getElem?_eq_some_iff.1 hx).1; omega)
    go_wp2_with fail
    exact bodyPost_ret (v := .tuple #[.slice (some ⟨w1.heap.size, 0, none⟩) 128 128, .int .i64 0]) (by simp [results, Try.results12, go_sem]) rfl ⟨_, _, rfl, by rw [ht]; exact zeros_bytes w1, Kept.of_alloc [] w1 _⟩
end
end Go.Proofs.Ytcnejanckolklaa
