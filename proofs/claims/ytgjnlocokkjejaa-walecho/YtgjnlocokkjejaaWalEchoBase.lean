/-
  A LIST TO BE COMMITTED, none in it or some, whose bytes may be set anew; its commit, cut off or not, in one contract.
-/
import Derived.Test.YtgjnlocokkjejaaWalTwice
namespace Go.Proofs.Ytgjnlocokkjejaa
open Go.RowKit Go.Maps

/-- A list of some, in a block that may be written. -/
structure PK (W : World) (pk base : Nat) (ps : List PutV) : Prop where
  puts : PutsAt W pk ps
  row : ∃ c, W.heap[pk]? = some (.cells c 69 (0, 0))
  item : ∀ x ∈ ps, x.o = 0 ∧ base ≤ x.b ∧ 42 ≤ x.N ∧ x.N < 60 ∧ x.b ≠ pk ∧ x.b < W.heap.size
  good : GoodPuts 60 ps
def LP (W : World) (base : Nat) (v : Value) (ps : List PutV) : Prop :=
  (ps = [] ∧ ∃ A cap, v = .slice A 0 cap ∧ ((A = none ∧ cap = 0) ∨ ∃ pk, A = some ⟨pk, 0, none⟩ ∧ pk < W.heap.size)) ∨
  ∃ pk cap, v = .slice (some ⟨pk, 0, none⟩) ps.length cap ∧ ps.length ≤ cap ∧ base ≤ pk ∧ PK W pk base ps
theorem PK.kept {T : List Nat} {W W' : World} {pk base : Nat} {ps : List PutV} (h : PK W pk base ps) (k : Kept T W W') (hp : pk ∉ T) (hb : ∀ x ∈ ps, x.b ∉ T) : PK W' pk base ps := by
  refine ⟨h.puts.kept k hp hb, ?_, fun x hx => ?_, h.good⟩
  · obtain ⟨c, hc⟩ := h.row
    exact ⟨c, (k.block pk h.puts.1 hp).trans hc⟩
  · obtain ⟨a, b, c, d, e, f⟩ := h.item x hx
    exact ⟨a, b, c, d, e, Nat.lt_of_lt_of_le f k.size⟩
theorem LP.kept {T : List Nat} {W W' : World} {base : Nat} {v : Value} {ps : List PutV} (h : LP W base v ps) (k : Kept T W W') (hT : ∀ x ∈ T, x < base) : LP W' base v ps := by
  rcases h with ⟨e, A, cap, hv, hA⟩ | ⟨pk, cap, hv, hc, hb, hp⟩
  · refine Or.inl ⟨e, A, cap, hv, hA.imp id ?_⟩
    rintro ⟨pk, h1, h2⟩
    exact ⟨pk, h1, Nat.lt_of_lt_of_le h2 k.size⟩
  · exact Or.inr ⟨pk, cap, hv, hc, hb, hp.kept k (fun h => by have := hT _ h; omega) (fun x hx h => by have := hT _ h; have := (hp.item x hx).2.1; omega)⟩
theorem LP.done {W : World} {base : Nat} {v : Value} {ps : List PutV} (h : LP W base v ps) (S : List ByteArray) (hS : S.length = 18) :
    Calls Try.prog 28 #[stOf S, v] W fun e w' => e = .returned (stOf (doneOf S ps)) ∧ Kept [] W w' := by
  rcases h with ⟨rfl, A, cap, rfl, hA⟩ | ⟨pk, cap, rfl, hc, hb, hp⟩
  · rcases hA with ⟨rfl, rfl⟩ | ⟨pk, rfl, hpk⟩
    · exact done_none W S hS
    · exact done_any W S hS pk cap [] ⟨hpk, by simp⟩ (by simp) (by simp) (by simp)
  · exact done_any W S hS pk cap ps hp.puts (fun x hx => ⟨(hp.item x hx).2.2.1, (hp.item x hx).2.2.2.1⟩) hp.good.few (fun x hx => (hp.item x hx).1)
/-- One element's bytes are set anew. -/
theorem PK.set {W : World} {pk base : Nat} {ps : List PutV} (h : PK W pk base ps) {k g : Nat} {l : List Int} (hk : k < ps.length) (hr : Row W g l) (hl : Sec l) (hg : base ≤ g) (hgp : g ≠ pk) :
    PK (W.setCell ⟨pk, k * 2 + 1, none⟩ (.slice (some ⟨g, 0, none⟩) 128 128)) pk base (ps.set k ⟨ps[k].N, l, g, 0, 128⟩) ∧ Kept [pk] W (W.setCell ⟨pk, k * 2 + 1, none⟩ (.slice (some ⟨g, 0, none⟩) 128 128)) := by
  obtain ⟨c, hc⟩ := h.row
  have kk : Kept [pk] W (W.setCell ⟨pk, k * 2 + 1, none⟩ (.slice (some ⟨g, 0, none⟩) 128 128)) := (Kept.refl _ W).setCell (by simp) _
  have hx : ps[k]? = some ps[k] := List.getElem?_eq_getElem hk
  have hme : ps[k] ∈ ps := List.getElem_mem _
  have hN : ∀ (j : Nat) (y : PutV), (ps.set k ⟨ps[k].N, l, g, 0, 128⟩)[j]? = some y → ∃ z : PutV, ps[j]? = some z ∧ z.N = y.N := fun j y hy => by
    by_cases e : k = j
    · subst e
      rw [List.getElem?_set_self hk] at hy
      cases hy
      exact ⟨_, hx, rfl⟩
    · rw [List.getElem?_set_ne e] at hy
      exact ⟨y, hy, rfl⟩
  have hit : ∀ y ∈ ps.set k ⟨ps[k].N, l, g, 0, 128⟩, y.o = 0 ∧ base ≤ y.b ∧ 42 ≤ y.N ∧ y.N < 60 ∧ y.b ≠ pk ∧ y.b < W.heap.size := fun y hy => by
    rcases List.mem_or_eq_of_mem_set hy with h1 | rfl
    · exact h.item y h1
    · obtain ⟨_, _, c1, c2, _⟩ := h.item _ hme
      exact ⟨rfl, hg, c1, c2, hgp, hr.lt⟩
  refine ⟨⟨⟨Nat.lt_of_lt_of_le h.puts.1 kk.size, fun j y hy => ?_⟩, ⟨_, heap_setCell_at _ hc⟩, fun y hy => ?_, ?_⟩, kk⟩
  · have c2 := (h.puts.2 k _ hx).2.1
    by_cases e : k = j
    · subst e
      rw [List.getElem?_set_self hk] at hy
      cases hy
      refine ⟨?_, World.cell?_setCell_same _ _ _ c2, ?_, hl⟩
      · rw [World.cell?_setCell_other _ _ _ _ (by simp)]
        exact (h.puts.2 k _ hx).1
      · exact rangeAt_of_block (kk.block g hr.lt (by simpa using hgp)) (row_range hr)
    · rw [List.getElem?_set_ne e] at hy
      obtain ⟨d1, d2, d3, d4⟩ := h.puts.2 j y hy
      have hb := h.item y (List.mem_of_getElem? hy)
      refine ⟨?_, ?_, rangeAt_of_block (kk.block y.b hb.2.2.2.2.2 (by simpa using hb.2.2.2.2.1)) d3, d4⟩
      · rw [World.cell?_setCell_other _ _ _ _ (by simp <;> omega)]; exact d1
      · rw [World.cell?_setCell_other _ _ _ _ (by simp <;> omega)]; exact d2
  · obtain ⟨a, b, c, d, e, f⟩ := hit y hy
    exact ⟨a, b, c, d, e, Nat.lt_of_lt_of_le f kk.size⟩
  · refine ⟨by rw [List.length_set]; exact h.good.few, by rw [List.length_set]; exact h.good.more, fun y hy => ⟨(hit y hy).2.2.1, (hit y hy).2.2.2.1⟩, fun i j x y hx hy hij => ?_⟩
    obtain ⟨x', hx', ex⟩ := hN i x hx
    obtain ⟨y', hy', ey⟩ := hN j y hy
    rw [← ex, ← ey]
    exact h.good.apart i j x' y' hx' hy' hij

section
variable {w W : World} {db pb mb lb sb nb : Nat} {q : Int} {S N : List ByteArray} {σ : Dsk} {B : Nat}
theorem L1.stop {wr : World} (h : L1 w db pb mb lb sb nb wr q S N σ B) (hf : Far w db pb mb lb sb nb) {k : Int} (d : DiskIs W db pb mb 60 B { σ with left := k }) (kk : Kept [db] wr W) : L1 w db pb mb lb sb nb W q S N { σ with left := k } B := by
  obtain ⟨f1, f2, f3, f4, f5, f6, f7, f8, f9⟩ := hf
  exact ⟨d, h.few, h.s.kept kk (by simp; omega), h.n.kept kk (by simp; omega), h.safe, (h.kept.mono (by simp)).trans kk |>.fewer (by simp; omega), fun hd => by
    obtain ⟨s1, U, sq, hL, r⟩ := h.live hd
    exact ⟨s1, U, sq, hL.turn (kk.mono (by simp)) d, r⟩⟩
theorem run_left (r : List DOp) {σ σ1 : Dsk} (h0 : σ.left = 0) (h : σ.run r = (σ1, true)) : σ1.left = 0 := by
  have := (run_live r h0).2
  rw [h] at this
  exact this
/-- The commit of a list, cut off or not. -/
theorem commitL {base : Nat} {v : Value} {ps : List PutV} (h : L1 w db pb mb lb sb nb W q S (doneOf S ps) σ B) (hf : Far w db pb mb lb sb nb) (hd : σ.dead = false) (hq : q ≤ 100) (hp : LP W base v ps) (hb : nb < base) :
    Calls Try.prog 29 #[.pointer (some ⟨lb, 0, none⟩), v] W fun e w' => Kept [db, pb, mb, lb] W w' ∧ StAt w' sb S ∧ StAt w' nb (doneOf S ps) ∧
      ((e = .returned (.int .i64 0) ∧ ∃ σ6, σ6.dead = false ∧ (σ.left = 0 → σ6.left = 0) ∧ ∀ W7, w'.setCells sb 0 (stCells (doneOf S ps)) = W7 → L1 w db pb mb lb sb nb W7 (q + 1) (doneOf S ps) (doneOf S ps) σ6 (B + 90)) ∨
       (e = .returned (.int .i64 12) ∧ σ.left ≠ 0 ∧ ∃ σ6, L1 w db pb mb lb sb nb w' (q + 1) S (doneOf S ps) σ6 (B + 90))) := by
  obtain ⟨f1, f2, f3, f4, f5, f6, f7, f8, f9⟩ := id hf
  have hsl := h.s.len
  obtain ⟨s1, U, sq, hLg, hbf, hI, hs0, hs1, hT⟩ := h.live hd
  rcases hp with ⟨rfl, A, cap, rfl, hA⟩ | ⟨pk, cap, rfl, hc, hbp, hp⟩
  · refine (Commit_none (w := W) (lb := lb) cap A).mono ?_
    rintro e w' ⟨rfl, k⟩
    refine ⟨k.mono (by simp), h.s.kept k (by simp), h.n.kept k (by simp), Or.inl ⟨rfl, σ, hd, id, fun W7 hW7 => ?_⟩⟩
    have h2 := ((h.on k).put_s hf hW7).next
    exact ⟨h2.disk.mono (by omega), by have := h2.few; have := h.few; omega, h2.s, h2.n, h2.safe, h2.kept, fun hd => by
      obtain ⟨s1, U, sq, hL, r⟩ := h2.live hd
      exact ⟨s1, U, sq, hL.mono (by omega), r⟩⟩
  · have hIo : IdleOn σ sq := hI.on (by simp [Dsk.newest, hbf]) hs0 (by omega)
    have hsec : ∀ x ∈ ps, Sec x.bytes ∧ 42 ≤ x.N ∧ x.N < 60 := fun x hx => by
      obtain ⟨j, hj⟩ := List.getElem?_of_mem hx
      exact ⟨(hp.puts.2 j x hj).2.2.2, (hp.item x hx).2.2.1, (hp.item x hx).2.2.2.1⟩
    have htU : Tells (afterPuts U ps) (doneOf S ps) := by
      have := tells_puts hsec ps.length (Nat.le_refl _) U S hsl hT
      rwa [List.take_length] at this
    have hslD : (doneOf S ps).length = 18 := by rw [doneOf_len]; exact hsl
    have cC := Commit_any hLg hd (by decide) (by have := h.few; omega) pk cap ps hp.puts hc (by simp; omega) (fun x hx => by have := (hp.item x hx).2.1; simp; omega) hp.good hIo
    obtain ⟨cs1, cs2, cs3, _⟩ := commit_safe hbf hI hp.good (by decide) hs0 (by omega)
    obtain ⟨⟨σ6, ok⟩, hr⟩ : ∃ x, σ.run (commitOps sq ps) = x := ⟨_, rfl⟩
    rw [hr] at cC
    refine cC.mono ?_
    rintro e w6 ⟨rfl, ⟨s6, L6⟩, k6⟩
    have sS6 := h.s.kept k6 (by simp; omega)
    have sN6 := h.n.kept k6 (by simp; omega)
    have kS6 : Kept [] w w6 := (h.kept.mono (by simp)).trans k6 |>.fewer (by simp; omega)
    have hBq := h.few
    refine ⟨k6, sS6, sN6, ?_⟩
    cases ok with
    | false =>
      refine Or.inr ⟨rfl, fun h0 => ?_, σ6, L6.disk, by omega, sS6, sN6, (safe_dies _ cs1 hr).more fun V t h => ?_, kS6, fun h => by rw [run_dead _ hr] at h; cases h⟩
      · have := (run_live (commitOps sq ps) h0).1
        rw [hr] at this
        cases this
      · rcases h with ⟨a, b⟩ | ⟨a, b⟩
        · subst a; subst b; exact ⟨Or.inl hT, by omega, by omega⟩
        · subst a; subst b; exact ⟨Or.inr htU, by omega, by omega⟩
    | true =>
      refine Or.inl ⟨rfl, σ6, (Dsk.run_alive _ hr).trans hd, fun h0 => run_left _ h0 hr, fun W7 hW7 => ?_⟩
      obtain ⟨s7, k7⟩ := st_stored sS6 hslD
      rw [hW7] at s7 k7
      rw [← run_all _ hr] at cs2 cs3
      exact ⟨L6.disk.kept k7 (by simp; omega) (by simp; omega) (by simp; omega), by omega, s7, sN6.kept k7 (by simp; omega), live_out cs2 cs3 (by omega) (by omega) htU, (kS6.mono (by simp)).trans k7 |>.fewer (by simp; omega), fun _ => ⟨_, _, sq + 1, L6.kept k7 (by simp; omega) (by simp; omega) (by simp; omega) (by simp; omega), cs2, cs3, by omega, by omega, htU⟩⟩
/-- What puts gives is such a list. -/
theorem PutsOwn.lp {base : Nat} {v : Value} {ps : List PutV} (h : PutsOwn W base v ps) (hl : ps.length ≤ 30) : LP W base v ps := by
  by_cases e0 : ps = []
  · subst e0
    rcases h.done with ⟨_, rfl⟩ | ⟨pk, cap, rfl, hpk, hpa, hcap⟩
    · exact Or.inl ⟨rfl, none, 0, rfl, Or.inl ⟨rfl, rfl⟩⟩
    · exact Or.inl ⟨rfl, _, cap, rfl, Or.inr ⟨pk, rfl, hpa.1⟩⟩
  · have hg : GoodPuts 60 ps := ⟨by omega, by cases ps with | nil => exact absurd rfl e0 | cons a r => simp, fun x hx => ⟨(h.bytes x hx).2.2.2.2.1, (h.bytes x hx).2.2.2.2.2.1⟩, h.apart⟩
    obtain ⟨pk, cap, rfl, hpk, hpa, hcap⟩ : ∃ pk cap, v = .slice (some ⟨pk, 0, none⟩) ps.length cap ∧ base ≤ pk ∧ PutsAt W pk ps ∧ ps.length ≤ cap := h.done.resolve_left fun h => e0 h.1
    have hrow : ∃ c, W.heap[pk]? = some (.cells c 69 (0, 0)) := by
      rcases h.own.2 with ⟨e, f⟩ | ⟨g, cap, cur, e, hb, hg, _⟩
      · cases e
      · simp at e
        obtain ⟨rfl, _⟩ := e
        exact ⟨cur, hg⟩
    refine Or.inr ⟨pk, cap, rfl, hcap, hpk, hpa, hrow, fun x hx => ?_, hg⟩
    obtain ⟨a, b, c, d, e, f, g⟩ := h.bytes x hx
    exact ⟨g, d, e, f, fun hh => by
      obtain ⟨c1, h1⟩ := hrow
      obtain ⟨c2, _, h2⟩ := c
      rw [hh, h1] at h2
      simp at h2, c.lt⟩
end
end Go.Proofs.Ytgjnlocokkjejaa
