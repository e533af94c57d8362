/-
  BOTH DISKS, SIDE BY SIDE: whatever is asked of both, they answer the same, and tell the same behind it.
-/
import Derived.Test.YtcnejanckolklaaPlaysTells
namespace Go.Proofs.Ytcnejanckolklaa
open Go.RowKit Go.Maps
set_option linter.unusedSimpArgs false
set_option linter.unusedVariables false

section
variable {w w' : World} {F : List Nat} {xb : Nat} {v : Value} {N : Nat} {es : List Sc} {done left : Int} {dead : Bool}
theorem RefAt.fresh (h : RefAt w F xb v N es done left dead) {g : Nat} (hg : w.heap.size ≤ g) : RefAt w (g :: F) xb v N es done left dead := by
  refine ⟨h.own, h.row, fun e he => ?_, ?_, fun b hb => ?_, h.few⟩
  · obtain ⟨b1, c1, b2, c2, f1, f2⟩ := h.bytes e he
    have := b1.lt
    have := b2.lt
    exact ⟨b1, c1, b2, c2, ⟨by simp only [List.mem_cons, not_or]; exact ⟨by omega, f1.1⟩, f1.2⟩, ⟨by simp only [List.mem_cons, not_or]; exact ⟨by omega, f2.1⟩, f2.2⟩⟩
  · have := h.xbl
    simp only [List.mem_cons, not_or]
    exact ⟨by omega, h.xf⟩
  · have := (h.row.lt b hb).2
    obtain ⟨v1, v2⟩ := h.vf b hb
    simp only [List.mem_cons, not_or]
    exact ⟨⟨by omega, v1⟩, v2⟩
theorem RefAt.less {G : List Nat} (h : RefAt w F xb v N es done left dead) (hG : ∀ x ∈ G, x ∈ F) : RefAt w G xb v N es done left dead := by
  refine ⟨h.own, h.row, fun e he => ?_, fun x => h.xf (hG _ x), fun b hb => ⟨fun x => (h.vf b hb).1 (hG _ x), (h.vf b hb).2⟩, h.few⟩
  obtain ⟨b1, c1, b2, c2, f1, f2⟩ := h.bytes e he
  exact ⟨b1, c1, b2, c2, ⟨fun x => f1.1 (hG _ x), f1.2⟩, ⟨fun x => f2.1 (hG _ x), f2.2⟩⟩
theorem RefAt.drew (h : RefAt w F xb v N es done left dead) : RefAt w.drew F xb v N es done left dead := h.kept (Kept.refl [] w).drew (by simp)

theorem rnew_refuses (k : Int) (h : k < 1 ∨ 4096 < k) (w : World) :
    Calls Try.prog 6 #[.int .i64 k] w fun e w' => e = .returned (.tuple #[.pointer none, .int .i64 1]) ∧ w' = w := by
  by_cases h1 : k < 1
  · go_enter Try.func6, Try.ntmps6
    go_wp2
    go_ret2
    exact ⟨rfl, rfl⟩
  · have h2 : 4096 < k := by omega
    go_enter Try.func6, Try.ntmps6
    go_wp2
    go_ret2
    exact ⟨rfl, rfl⟩
theorem rnew_any (n : Nat) (h1 : 1 ≤ n) (h2 : n ≤ 4096) (w : World) (F : List Nat) (hF : ∀ x ∈ F, x < w.heap.size) :
    Calls Try.prog 6 #[.int .i64 (n : Int)] w fun e w' => ∃ xb, e = .returned (.tuple #[.pointer (some ⟨xb, 0, none⟩), .int .i64 0]) ∧ RefAt w' F xb (.slice none 0 0) n [] 0 0 false ∧ w.heap.size ≤ xb ∧ Kept [] w w' := by
  have e1 : ¬ (n : Int) < 1 := by omega
  have e2 : ¬ (4096 : Int) < (n : Int) := by omega
  have hfin : RefAt (w.alloc (.cells #[.int .i64 (n : Int), .slice none 0 0, .int .i64 0, .int .i64 0, .bool false] 50)) F w.heap.size (.slice none 0 0) n [] 0 0 false :=
    ⟨heap_alloc_new w _, World.ownsRow_nil _ _ _ _, by simp, fun x => (by have := hF _ x; omega), fun b hb => (by cases hb), by simp⟩
  go_enter Try.func6, Try.ntmps6
  go_wp2
  exact bodyPost_ret (v := .tuple #[.pointer (some ⟨w.heap.size, 0, none⟩), .int .i64 0]) (by simp [results, Try.results6, go_sem]) rfl ⟨_, rfl, hfin, Nat.le_refl _, Kept.of_alloc [] w _⟩
end

/-- Both disks. B: no more operations than that were done; base: all of theirs is newer. -/
def Core (w : World) (F : List Nat) (db pb mb xb N B base : Nat) : Prop :=
  ∃ (nn : Nat) (pl : Nat → List Int) (D : DataW (List Int)) (ops left : Int) (dead : Bool) (v : Value) (es : List Sc), DiskAt w db pb mb N nn pl D ops left dead ∧ RefAt w F xb v N es ops left dead ∧ Tells N pl D es ∧
    nn ≤ B ∧ 0 ≤ ops ∧ ops ≤ B ∧ 0 ≤ left ∧ left < 9223372036854775808 ∧ es.length ≤ B ∧ ∀ b, v.ownBlock = some b → base ≤ b

section
variable {w w' : World} {F : List Nat} {db pb mb xb N B base nn : Nat} {pl : Nat → List Int} {D : DataW (List Int)} {ops left : Int} {dead : Bool} {v : Value} {es : List Sc}
theorem Core.kept {S : List Nat} (h : Core w F db pb mb xb N B base) (k : Kept S w w') (hS : ∀ x ∈ S, x ∈ F) (h1 : db ∉ S) (h2 : pb ∉ S) (h3 : mb ∉ S) : Core w' F db pb mb xb N B base := by
  obtain ⟨nn, pl, D, ops, left, dead, v, es, hD, hR, r⟩ := h
  exact ⟨nn, pl, D, ops, left, dead, v, es, hD.kept k h1 h2 h3, hR.kept k hS, r⟩
theorem Core.more {B' : Nat} {G : List Nat} (h : Core w F db pb mb xb N B base) (hB : B ≤ B') (hG : ∀ x ∈ G, x ∈ F) : Core w G db pb mb xb N B' base := by
  obtain ⟨nn, pl, D, ops, left, dead, v, es, hD, hR, t, h1, h2, h3, h4, h5, h6, h7⟩ := h
  exact ⟨nn, pl, D, ops, left, dead, v, es, hD, hR.less hG, t, by omega, h2, by omega, h4, h5, by omega, h7⟩

/-- The disk's own blocks are no blocks of the other one. -/
theorem apart_of (hR : RefAt w F xb v N es ops left dead) (hF : ∀ x ∈ [db, pb, mb], x ∈ F) : db ∉ xb :: vb v ∧ pb ∉ xb :: vb v ∧ mb ∉ xb :: vb v := by
  have q : ∀ x ∈ F, x ∉ xb :: vb v := by
    intro x hx hh
    rcases List.mem_cons.1 hh with rfl | hh
    · exact hR.xf hx
    · unfold vb at hh
      split at hh
      · rename_i b hb
        simp at hh
        subst hh
        exact (hR.vf x hb).1 hx
      · simp at hh
  exact ⟨q _ (hF _ (by simp)), q _ (hF _ (by simp)), q _ (hF _ (by simp))⟩
theorem dec_lo {left : Int} (h : 0 ≤ left) : 0 ≤ (if 1 < left then left - 1 else left) := by split <;> omega
theorem dec_hi {left : Int} (h : left < 9223372036854775808) : (if 1 < left then left - 1 else left) < 9223372036854775808 := by split <;> omega

theorem wrote_len {es es' : List Sc} {n : Int} {l : List Int} (h : Wrote es n l es') : es'.length ≤ es.length + 1 := by
  obtain ⟨k, p, ⟨e, g, c, he, hn, rfl⟩ | ⟨hno, og, oc, g, c, rfl⟩⟩ := h
  · simp
  · simp; omega

/-- Write, of both. -/
theorem write_both (hD : DiskAt w db pb mb N nn pl D ops left dead) (hR : RefAt w F xb v N es ops left dead) (t : Tells N pl D es) (hF : ∀ x ∈ [db, pb, mb], x ∈ F) (hFl : ∀ x ∈ F, x < w.heap.size) (b1 : nn ≤ B) (b2 : 0 ≤ ops) (b3 : ops ≤ B) (b4 : 0 ≤ left) (b5 : left < 9223372036854775808) (b6 : es.length ≤ B) (b7 : ∀ b, v.ownBlock = some b → base ≤ b) (hB : B < 500) (hbase : base ≤ w.heap.size)
    (k : Int) (gm cm : Nat) (a2 : Option Addr) (len c2 : Nat) (l : List Int) (hm : BytesAt w gm len l) (hgm : gm ≠ db)
    (h2 : ∀ j, j < len → ∃ ad, a2 = some ad ∧ w.cell? (ad.add j) = some (.int .u8 (l.getD j 0)) ∧ (ad.add j).block ≠ db ∧ (ad.add j).block ≠ mb ∧ (ad.add j).block ≠ xb ∧ v.ownBlock ≠ some (ad.add j).block) :
    Calls Try.prog 9 #[.pointer (some ⟨db, 0, none⟩), .int .i64 k, .slice (some ⟨gm, 0, none⟩) len cm] w fun e w1 => ∃ r : Int, e = .returned (.int .i64 r) ∧ Kept [db, pb, mb] w w1 ∧
      Calls Try.prog 10 #[.pointer (some ⟨xb, 0, none⟩), .int .i64 k, .slice a2 len c2] w1 fun e w2 => e = .returned (.int .i64 r) ∧ Core w2 F db pb mb xb N (B + 1) base ∧ Kept ([db, pb, mb] ++ xb :: vb v) w w2 := by
  obtain ⟨n1, n2, n3⟩ := apart_of hR hF
  have core : ∀ {w1 w2 : World} {D' : DataW (List Int)} {ops' left' : Int} {dead' : Bool} {v' : Value} {es' : List Sc} {nn' : Nat}, DiskAt w1 db pb mb N nn' pl D' ops' left' dead' → Kept (xb :: vb v) w1 w2 → RefAt w2 F xb v' N es' ops' left' dead' → Tells N pl D' es' → nn' ≤ B + 1 → 0 ≤ ops' → ops' ≤ (B + 1 : Nat) → 0 ≤ left' → left' < 9223372036854775808 → es'.length ≤ B + 1 → (∀ b, v'.ownBlock = some b → base ≤ b) → Core w2 F db pb mb xb N (B + 1) base :=
    fun d k r t a b c d' e f g => ⟨_, _, _, _, _, _, _, _, d.kept k n1 n2 n3, r, t, a, b, c, d', e, f, g⟩
  cases dead with
  | true =>
    refine (write_dead hD k _).mono ?_
    rintro e w1 ⟨rfl, rfl⟩
    refine ⟨12, rfl, Kept.refl _ _, (rwrite_dead hR k _).mono ?_⟩
    rintro e w2 ⟨rfl, rfl⟩
    exact ⟨rfl, core hD (Kept.refl _ _) hR t (by omega) b2 (by omega) b4 b5 (by omega) b7, Kept.refl _ _⟩
  | false =>
    by_cases hbad : (decide (0 ≤ k) && decide (k < (N : Int))) = false ∨ len ≠ 128
    · refine (write_refuses hD k _ len cm hbad).mono ?_
      rintro e w1 ⟨rfl, rfl⟩
      refine ⟨1, rfl, Kept.refl _ _, (rwrite_refuses hR k a2 len c2 ?_).mono ?_⟩
      · rcases hbad with h | h
        · simp at h
          by_cases h0 : 0 ≤ k
          · exact .inr (.inl (h h0))
          · exact .inl (by omega)
        · exact .inr (.inr h)
      · rintro e w2 ⟨rfl, rfl⟩
        exact ⟨rfl, core hD (Kept.refl _ _) hR t (by omega) b2 (by omega) b4 b5 (by omega) b7, Kept.refl _ _⟩
    · have hok : 0 ≤ k ∧ k < N ∧ len = 128 := by
        simp at hbad
        exact ⟨hbad.1.1, hbad.1.2, hbad.2⟩
      obtain ⟨h0, h1, rfl⟩ := hok
      have hsl : Sec l := ⟨hm.size, hm.ok⟩
      obtain ⟨ad, rfl, _⟩ := h2 0 (by omega)
      have h2' : ∀ j, j < 128 → w.cell? (ad.add j) = some (.int .u8 (l.getD j 0)) ∧ (ad.add j).block ≠ db ∧ (ad.add j).block ≠ mb ∧ (ad.add j).block ≠ xb ∧ v.ownBlock ≠ some (ad.add j).block := fun j hj => by
        obtain ⟨ad', he, r⟩ := h2 j hj
        cases he
        exact r
      by_cases hs : left = 1
      · refine (write_stops hD k _ cm h0 h1 hs).mono ?_
        rintro e w1 ⟨rfl, d1, k1⟩
        have r1 := hR.kept k1 (fun x hx => hF x (by simp at hx; simp [hx]))
        refine ⟨12, rfl, k1.mono (by simp), (rwrite_stops r1 hs k h0 h1 _ c2).mono ?_⟩
        rintro e w2 ⟨rfl, r2, k2⟩
        exact ⟨rfl, core d1 (k2.mono (by simp)) r2 t (by omega) b2 (by omega) (Int.le_refl _) (by decide) (by omega) b7, (k1.mono (by simp)).trans (k2.mono (by simp))⟩
      · refine (write_any hD k l hsl gm 0 cm hm.cells hgm h0 h1 (by omega) b2 (by omega) hs b5).mono ?_
        rintro e w1 ⟨rfl, d1, k1⟩
        have r1 := hR.kept k1 (fun x hx => hF x (by simp at hx; rcases hx with rfl | rfl <;> simp))
        refine ⟨0, rfl, k1.mono (by simp), (rwrite_any r1 hs b2 (by omega) b5 k h0 h1 (by omega) ad c2 l hsl (fun j hj => ?_) (fun x hx => Nat.lt_of_lt_of_le (hFl x hx) k1.size)).mono ?_⟩
        · obtain ⟨q1, q2, q3, q4, q5⟩ := h2' j hj
          exact ⟨Kept.cell k1 q1 (by simp [q2, q3]), q4, q5⟩
        · rintro e w2 ⟨rfl, v', es', r2, hw, k2, hv⟩
          have hl := wrote_len hw
          exact ⟨rfl, core d1 k2 r2 (t.write hD.buf.isMap h0 h1 hw) (by omega) (by omega) (by omega) (dec_lo b4) (dec_hi b5) (by omega) (fun b hb => by
            rcases hv b hb with h | h
            · exact b7 b h
            · have := k1.size; omega), (k1.mono (by simp)).trans (k2.mono (fun x hx => List.mem_append.2 (.inr hx)))⟩

/-- Flush, of both. -/
theorem flush_both (hD : DiskAt w db pb mb N nn pl D ops left dead) (hR : RefAt w F xb v N es ops left dead) (t : Tells N pl D es) (hF : ∀ x ∈ [db, pb, mb], x ∈ F) (b1 : nn ≤ B) (b2 : 0 ≤ ops) (b3 : ops ≤ B) (b4 : 0 ≤ left) (b5 : left < 9223372036854775808) (b6 : es.length ≤ B) (b7 : ∀ b, v.ownBlock = some b → base ≤ b) (hB : B < 500) :
    Calls Try.prog 13 #[.pointer (some ⟨db, 0, none⟩)] w fun e w1 => ∃ r : Int, e = .returned (.int .i64 r) ∧ Kept [db, pb, mb] w w1 ∧
      Calls Try.prog 14 #[.pointer (some ⟨xb, 0, none⟩)] w1 fun e w2 => e = .returned (.int .i64 r) ∧ Core w2 F db pb mb xb N (B + 1) base ∧ Kept ([db, pb, mb] ++ xb :: vb v) w w2 := by
  obtain ⟨n1, n2, n3⟩ := apart_of hR hF
  cases dead with
  | true =>
    refine (flush_dead hD).mono ?_
    rintro e w1 ⟨rfl, rfl⟩
    refine ⟨12, rfl, Kept.refl _ _, (rflush_dead hR).mono ?_⟩
    rintro e w2 ⟨rfl, rfl⟩
    exact ⟨rfl, ⟨_, _, _, _, _, _, _, _, hD, hR, t, by omega, b2, by omega, b4, b5, by omega, b7⟩, Kept.refl _ _⟩
  | false =>
    by_cases hs : left = 1
    · refine (flush_stops hD hs).mono ?_
      rintro e w1 ⟨rfl, d1, k1⟩
      have r1 := hR.kept k1 (fun x hx => hF x (by simp at hx; simp [hx]))
      refine ⟨12, rfl, k1.mono (by simp), (rflush_stops r1 hs).mono ?_⟩
      rintro e w2 ⟨rfl, r2, k2⟩
      exact ⟨rfl, ⟨_, _, _, _, _, _, _, _, d1.kept (k2.mono (T := xb :: vb v) (by simp)) n1 n2 n3, r2, t, by omega, b2, by omega, Int.le_refl _, by decide, by omega, b7⟩, (k1.mono (by simp)).trans (k2.mono (by simp))⟩
    · refine (flush_any hD b2 (by omega) hs b5).mono ?_
      rintro e w1 ⟨rfl, d1, k1⟩
      have r1 := hR.kept k1 (fun x hx => hF x hx)
      refine ⟨0, rfl, k1, (rflush_any r1 hs b2 (by omega) b5).mono ?_⟩
      rintro e w2 ⟨rfl, r2, k2⟩
      exact ⟨rfl, ⟨_, _, _, _, _, _, _, _, d1.kept k2 n1 n2 n3, r2, t.flush, by omega, by omega, by omega, dec_lo b4, dec_hi b5, by rw [List.length_map]; omega, b7⟩, (k1.mono (fun x hx => List.mem_append.2 (.inl hx))).trans (k2.mono (fun x hx => List.mem_append.2 (.inr hx)))⟩

/-- Stop, of both. -/
theorem stop_both (hD : DiskAt w db pb mb N nn pl D ops left dead) (hR : RefAt w F xb v N es ops left dead) (t : Tells N pl D es) (hF : ∀ x ∈ [db, pb, mb], x ∈ F) (b1 : nn ≤ B) (b2 : 0 ≤ ops) (b3 : ops ≤ B) (b6 : es.length ≤ B) (b7 : ∀ b, v.ownBlock = some b → base ≤ b) (k : Int) (hk : k < 9223372036854775808) :
    Calls Try.prog 15 #[.pointer (some ⟨db, 0, none⟩), .int .i64 k] w fun e w1 => e = .returned (.tuple #[]) ∧ Kept [db, pb, mb] w w1 ∧
      Calls Try.prog 16 #[.pointer (some ⟨xb, 0, none⟩), .int .i64 k] w1 fun e w2 => e = .returned (.tuple #[]) ∧ Core w2 F db pb mb xb N (B + 1) base ∧ Kept ([db, pb, mb] ++ xb :: vb v) w w2 := by
  obtain ⟨n1, n2, n3⟩ := apart_of hR hF
  refine (stop_any hD k).mono ?_
  rintro e w1 ⟨rfl, d1, k1⟩
  have r1 := hR.kept k1 (fun x hx => hF x (by simp at hx; simp [hx]))
  refine ⟨rfl, k1.mono (by simp), (rstop_any r1 k).mono ?_⟩
  rintro e w2 ⟨rfl, r2, k2⟩
  exact ⟨rfl, ⟨_, _, _, _, _, _, _, _, d1.kept (k2.mono (T := xb :: vb v) (by simp)) n1 n2 n3, r2, t, by omega, b2, by omega, by omega, by omega, by omega, b7⟩, (k1.mono (by simp)).trans (k2.mono (by simp))⟩

/-- Crash, of both. -/
theorem crash_both (hD : DiskAt w db pb mb N nn pl D ops left dead) (hR : RefAt w F xb v N es ops left dead) (t : Tells N pl D es) (hF : ∀ x ∈ [db, pb, mb], x ∈ F) (hFl : ∀ x ∈ F, x < w.heap.size) (b1 : nn ≤ B) (b2 : 0 ≤ ops) (b3 : ops ≤ B) (b6 : es.length ≤ B) (b7 : ∀ b, v.ownBlock = some b → base ≤ b) (hB : B < 500)
    (picks : List Int) (pa : Option Addr) (pn pc : Nat) (hpn : picks.length = pn)
    (hp : ∀ j, j < pn → ∃ y, pa = some y ∧ w.cell? (y.add j) = some (.int .i64 (picks.getD j 0)) ∧ (y.add j).block ∉ [db, pb, mb] ∧ (y.add j).block ≠ xb ∧ v.ownBlock ≠ some (y.add j).block) :
    Calls Try.prog 17 #[.pointer (some ⟨db, 0, none⟩), .slice pa pn pc] w fun e w1 => ∃ r : Int, e = .returned (.int .i64 r) ∧ Kept [db, pb, mb] w w1 ∧
      Calls Try.prog 18 #[.pointer (some ⟨xb, 0, none⟩), .slice pa pn pc] w1 fun e w2 => e = .returned (.int .i64 r) ∧ Core w2 F db pb mb xb N (B + 1) base ∧ Kept ([db, pb, mb] ++ xb :: vb v) w w2 := by
  obtain ⟨n1, n2, n3⟩ := apart_of hR hF
  subst hpn
  refine (crash_at hD (by omega) picks pa pc ?_).mono ?_
  · cases hl : picks with
    | nil => exact .inl rfl
    | cons y r =>
      obtain ⟨a, ha, _⟩ := hp 0 (by rw [hl]; simp)
      refine .inr ⟨a, ha, fun j hj => ?_⟩
      rw [← hl] at hj ⊢
      obtain ⟨a', ha', q1, q2, _⟩ := hp j hj
      rw [ha] at ha'
      cases ha'
      exact ⟨q1, fun e => q2 (by rw [e]; simp)⟩
  · rintro e w1 ⟨ks, hperm, hsort, rfl, d1, k1⟩
    have hks := t.keys hD.buf hD.keys hperm hsort
    subst hks
    have r1 := hR.kept k1 (fun x hx => hF x hx)
    refine ⟨_, rfl, k1, (rcrash_any r1 (fun x hx => Nat.lt_of_lt_of_le (hFl x hx) k1.size) picks pa pc picks.length rfl ?_).mono ?_⟩
    · intro j hj
      obtain ⟨y, hy, q1, q2, q3, q4⟩ := hp j hj
      exact ⟨y, hy, Kept.cell k1 q1 q2, q3, q4⟩
    · rintro e w2 ⟨es', rfl, r2, hc, k2⟩
      exact ⟨by rw [dirt_len], ⟨_, _, _, _, _, _, _, _, d1.kept k2 n1 n2 n3, r2, t.crash hc, by omega, b2, by omega, Int.le_refl _, by decide, by rw [hc.len]; omega, b7⟩, (k1.mono (fun x hx => List.mem_append.2 (.inl hx))).trans (k2.mono (fun x hx => List.mem_append.2 (.inr hx)))⟩
end
end Go.Proofs.Ytcnejanckolklaa
