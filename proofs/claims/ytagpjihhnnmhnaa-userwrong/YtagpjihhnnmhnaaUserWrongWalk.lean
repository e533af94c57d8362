/-
  UserWrong: the walk.
-/
import Derived.Test.YtagpjihhnnmhnaaUserTurn
namespace Go.Proofs.Ytagpjihhnnmhnaa
open Go.RowKit
set_option linter.unusedSimpArgs false
set_option linter.unusedVariables false

/-- A user's box: its name and its label. -/
abbrev NBox (W : World) (g : Nat) (nm : ByteArray) (c : Lab) : Prop := W.cell? ⟨g, 0, none⟩ = some (.string nm) ∧ W.cell? ⟨g, 3, none⟩ = some (.int .i64 c.s) ∧ W.cell? ⟨g, 4, none⟩ = some (.int .i64 c.c) ∧ W.cell? ⟨g, 5, none⟩ = some (.int .i64 c.i) ∧ W.cell? ⟨g, 6, none⟩ = some (.int .i64 c.k)
theorem NBox.keep {W W' : World} {g : Nat} {nm : ByteArray} {c : Lab} (h : NBox W g nm c) (b : Below W.heap.size W W') : NBox W' g nm c := by
  obtain ⟨h1, h2, h3, h4, h5⟩ := h
  have hg := World.block_lt_of_cell? _ _ h1
  exact ⟨(b.cell (p := ⟨g, 0, none⟩) hg).trans h1, (b.cell (p := ⟨g, 3, none⟩) hg).trans h2, (b.cell (p := ⟨g, 4, none⟩) hg).trans h3, (b.cell (p := ⟨g, 5, none⟩) hg).trans h4, (b.cell (p := ⟨g, 6, none⟩) hg).trans h5⟩
theorem nbox_alloc (w : World) (u : Usr) : NBox (w.alloc (.cells (ucells u) 40)) w.heap.size u.name u.clear := by
  refine ⟨?_, ?_, ?_, ?_, ?_⟩ <;> simp [World.cell?_alloc_at]

set_option maxRecDepth 8000 in
set_option maxHeartbeats 4000000 in
theorem userWrong_walk (a : Option Addr) (l : List Lab) (n cap : Nat) (hn : l.length = n) (k : Int) (hk : -9223372036854775808 ≤ k ∧ k ≤ 9223372036854775807) (by_ : Nat) (hby : by_ < 256) (w : World) (hL : LabsAt w a l) :
    Calls Try.prog 6 #[.slice a n cap, .int .i64 k, .int .u8 (by_ : Int)] w fun e w' => e = .returned (.bool true) ∧ Below w.heap.size w w' := by
  have cK := uknown_any w
  have cS := fun W hW => some_any a l n cap hn W hW
  have hus := some_ok l (k := 8) (by omega)
  have hfit := some_fit l (k := 8) (by omega)
  have hlen := someTo_len l 8
  go_enter Try.func6, Try.ntmps6
  go_wp2_with fail
  refine (cK).mono ?_
  rintro e w1 ⟨rfl, hB1⟩
  go_wp2_with fail
  refine (cS _ (hL.below hB1)).mono ?_
  rintro e w2 ⟨v, rfl, ho, hB2⟩
  have hBa := Below.then hB1 hB2
  obtain ⟨av, cv, rfl, hcv, hUs⟩ := ho.slice
  obtain ⟨ln, hln⟩ : ∃ ln, (someTo l 8).length = ln := ⟨_, rfl⟩
  rw [hln] at ho hcv hlen ⊢
  have hln8 : ln ≤ 8 := by omega
  clear hlen cK cS hB1 hB2 hL
  by_cases hl0 : ln = 0
  · subst hl0
    clear hfit hus
    as_aux_lemma =>
      go_wp2_with fail
      go_ret
      exact ⟨rfl, hBa⟩
  have i0 : ¬ (ln : Int) = 0 := by omega
  have i0' : ((ln : Int) == 0) = false := by simpa using i0
  by_cases hk0 : k < 0
  · clear hfit hus
    as_aux_lemma =>
      go_wp2_with fail
      go_ret
      exact ⟨rfl, hBa⟩
  by_cases hb0 : by_ = 0
  · subst hb0
    clear hfit hus
    as_aux_lemma =>
      go_wp2_with fail
      go_ret
      exact ⟨rfl, hBa⟩
  have ib : ((by_ : Int) == 0) = false := by simp; omega
  obtain ⟨j, hj⟩ : ∃ j : Nat, k % (ln : Int) = (j : Int) := ⟨(k % (ln : Int)).toNat, by have := Int.emod_nonneg k (show (ln : Int) ≠ 0 by omega); omega⟩
  have hjl : j < ln := by have := Int.emod_lt_of_pos k (show (0 : Int) < (ln : Int) by omega); omega
  obtain ⟨u, hu⟩ : ∃ u, (someTo l 8)[j]? = some u := ⟨_, List.getElem?_eq_getElem (by omega)⟩
  obtain ⟨y, rfl, hU⟩ := hUs j u hu
  obtain ⟨x, hx, hj8, hua⟩ := some_get hu
  obtain ⟨ch, hch⟩ : ∃ c, UInt8.ofNat (97 + j) = c := ⟨_, rfl⟩
  obtain ⟨d, hd, hdne⟩ := turn_byte ch hby hb0
  have hname : u.name = ⟨#[ch]⟩ := by rw [hua, ← hch]; rfl
  have hclear : u.clear = goodL x := by rw [hua]; rfl
  have hc2 : chr (97 + j) = ⟨#[ch]⟩ := by rw [← hch]; rfl
  have hR1 : enterR (someTo l 8) ⟨#[ch]⟩ (⟨#[ch, ch]⟩ : ByteArray).data.toList (goodL x) = 0 := by
    have := enter_right hj8 hx
    rw [hch, hc2] at this
    exact this
  have hR2 : enterR (someTo l 8) ⟨#[ch]⟩ (⟨#[ch, d]⟩ : ByteArray).data.toList (goodL x) = 21 := by
    have := enter_turned (d := d) hj8 hx (by rw [hch]; exact hdne)
    rw [hch, hc2] at this
    exact this
  have happ : (⟨#[ch]⟩ : ByteArray) ++ ⟨#[ch]⟩ = ⟨#[ch, ch]⟩ := by apply ByteArray.ext; rw [ByteArray.data_append]; rfl
  have hapx : (⟨#[ch]⟩ : ByteArray) ++ ⟨#[120]⟩ = ⟨#[ch, 120]⟩ := by apply ByteArray.ext; rw [ByteArray.data_append]; rfl
  have hR3 : enterR (someTo l 8) ⟨#[ch, 120]⟩ (⟨#[ch, ch]⟩ : ByteArray).data.toList (goodL x) = 21 := enter_nobody l (by show (2 : Nat) ≠ 1; decide) _ _
  have hR4 : enterR (someTo l 8) ⟨#[]⟩ (⟨#[]⟩ : ByteArray).data.toList (goodL x) = 21 := enter_nobody l (by show (0 : Nat) ≠ 1; decide) _ _
  have hGL := good_GL x
  have c1 := fun W hW => uenter_any (some y) (someTo l 8) ln cv hln (by omega) hus ⟨#[ch]⟩ ⟨#[ch, ch]⟩ (by show (1 : Nat) ≤ _; omega) (by show (2 : Nat) ≤ _; omega) (goodL x) hGL hfit W hW
  have c2 := fun W hW => uenter_any (some y) (someTo l 8) ln cv hln (by omega) hus ⟨#[ch]⟩ ⟨#[ch, d]⟩ (by show (1 : Nat) ≤ _; omega) (by show (2 : Nat) ≤ _; omega) (goodL x) hGL hfit W hW
  have c3 := fun W hW => uenter_any (some y) (someTo l 8) ln cv hln (by omega) hus ⟨#[ch, 120]⟩ ⟨#[ch, ch]⟩ (by show (2 : Nat) ≤ _; omega) (by show (2 : Nat) ≤ _; omega) (goodL x) hGL hfit W hW
  have c4 := fun W hW => uenter_any (some y) (someTo l 8) ln cv hln (by omega) hus ⟨#[]⟩ ⟨#[]⟩ (by show (0 : Nat) ≤ _; omega) (by show (0 : Nat) ≤ _; omega) (goodL x) hGL hfit W hW
  simp only [hR1] at c1
  simp only [hR2] at c2
  simp only [hR3] at c3
  simp only [hR4] at c4
  obtain ⟨G, hG⟩ : ∃ G, goodL x = G := ⟨_, rfl⟩
  rw [hG] at hclear
  simp only [hG] at c1 c2 c3 c4
  obtain ⟨us, hus'⟩ : ∃ us, someTo l 8 = us := ⟨_, rfl⟩
  rw [hus'] at ho hUs
  simp only [hus'] at c1 c2 c3 c4
  clear hc2 hR1 hR2 hR3 hR4 hGL hG hus hfit hua hx hu hch hb0 hln hus'
  obtain ⟨nm, salt, hsh, cl, off⟩ := u
  simp only at hname hclear
  subst hname hclear
  obtain ⟨p0, p1, p2, p3, p4, p5, p6, p7⟩ := hU
  have hB3 := alloc_below w2 (.cells (ucells ⟨⟨#[ch]⟩, salt, hsh, cl, off⟩) 40)
  have hN3 := nbox_alloc w2 ⟨⟨#[ch]⟩, salt, hsh, cl, off⟩
  obtain ⟨capw, W4, hcv4, hby4, hB4⟩ := conv_own (w2.alloc (.cells (ucells ⟨⟨#[ch]⟩, salt, hsh, cl, off⟩) 40)) ⟨#[ch, ch]⟩
  have hz2 : (⟨#[ch, ch]⟩ : ByteArray).size = 2 := rfl
  rw [hz2] at hcv4
  have b1 : ¬ 9223372036854775807 < 1 + 1 := by decide
  have hs1 : (⟨#[ch]⟩ : ByteArray).size = 1 := rfl
  have hU3 := hUs.below hB3
  have hBw3 := Below.then hBa hB3
  have hg3 : (w2.alloc (.cells (ucells ⟨⟨#[ch]⟩, salt, hsh, cl, off⟩) 40)).heap.size = w2.heap.size + 1 := by simp
  have hc40 := (hby4 0 (by show (0 : Nat) < 2; omega)).1
  have hc41 := (hby4 1 (by show (1 : Nat) < 2; omega)).1
  have hf41 := (hby4 1 (by show (1 : Nat) < 2; omega)).2
  have hbk := back_two W4 (w2.alloc (.cells (ucells ⟨⟨#[ch]⟩, salt, hsh, cl, off⟩) 40)).heap.size capw ch ch hc40 hc41
  rw [hg3] at hcv4 hbk hc40 hc41 hf41
  have hc40 : W4.cell? ⟨w2.heap.size + 1, 0, none⟩ = some (.int .u8 (ch.toNat : Int)) := hc40
  have hc41 : W4.cell? ⟨w2.heap.size + 1, 1, none⟩ = some (.int .u8 (ch.toNat : Int)) := hc41
  obtain ⟨n0, n3, n4, n5, n6⟩ := hN3.keep hB4
  have cE1 := c1 _ (hU3.below hB4)
  clear hby4 c1
  go_wp2_with fail
  refine cE1.mono ?_
  rintro e w5 ⟨rfl, hB5⟩
  have hB45 := Below.then hB4 hB5
  have hgl := World.block_lt_of_cell? _ _ hc40
  have h50 : w5.cell? ⟨w2.heap.size + 1, 0, none⟩ = some (.int .u8 (ch.toNat : Int)) := (hB5.cell (p := ⟨w2.heap.size + 1, 0, none⟩) hgl).trans hc40
  have h51 : w5.cell? ⟨w2.heap.size + 1, 1, none⟩ = some (.int .u8 (ch.toNat : Int)) := (hB5.cell (p := ⟨w2.heap.size + 1, 1, none⟩) hgl).trans hc41
  have hf51 : w5.frozen? ⟨w2.heap.size + 1, 1, none⟩ = false := (hB5.frozen (p := ⟨w2.heap.size + 1, 1, none⟩) hgl).trans hf41
  have hB6 : Below (w2.alloc (.cells (ucells ⟨⟨#[ch]⟩, salt, hsh, cl, off⟩) 40)).heap.size (w2.alloc (.cells (ucells ⟨⟨#[ch]⟩, salt, hsh, cl, off⟩) 40)) (w5.setCell ⟨w2.heap.size + 1, 1, none⟩ (.int .u8 (bits .xor .u8 (ch.toNat : Int) (by_ : Int)))) := hB45.setCell (p := ⟨w2.heap.size + 1, 1, none⟩) (by rw [hg3]; exact Nat.le_refl _) _
  have h60 : (w5.setCell ⟨w2.heap.size + 1, 1, none⟩ (.int .u8 (bits .xor .u8 (ch.toNat : Int) (by_ : Int)))).cell? ⟨w2.heap.size + 1, 0, none⟩ = some (.int .u8 (ch.toNat : Int)) := by simp [World.cell?_setCell_other, h50]
  have h61 : (w5.setCell ⟨w2.heap.size + 1, 1, none⟩ (.int .u8 (bits .xor .u8 (ch.toNat : Int) (by_ : Int)))).cell? ⟨w2.heap.size + 1, 1, none⟩ = some (.int .u8 (d.toNat : Int)) := by rw [hd]; simp [World.cell?_setCell_same', h51]
  have hbk6 := back_two _ (w2.heap.size + 1) capw ch d h60 h61
  obtain ⟨m0, m3, m4, m5, m6⟩ := hN3.keep hB6
  have cE2 := c2 _ (hU3.below hB6)
  clear n0 n3 n4 n5 n6 cE1 c2 hc40 hc41 hf41 hbk hB4 hB5 hB45
  go_wp2_with fail
  refine cE2.mono ?_
  rintro e w7 ⟨rfl, hB7⟩
  have hB67 := Below.then hB6 hB7
  obtain ⟨q0, q3, q4, q5, q6⟩ := hN3.keep hB67
  have cE3 := c3 _ (hU3.below hB67)
  clear cE2 m0 m3 m4 m5 m6 h50 h51 hf51 h60 h61 hbk6 c3 hB6
  go_wp2_with fail
  refine cE3.mono ?_
  rintro e w8 ⟨rfl, hB8⟩
  have hB68 := Below.then hB67 hB8
  obtain ⟨r0, r3, r4, r5, r6⟩ := hN3.keep hB68
  have cE4 := c4 _ (hU3.below hB68)
  clear cE3 q0 q3 q4 q5 q6 c4
  go_wp2_with fail
  refine cE4.mono ?_
  rintro e w9 ⟨rfl, hB9⟩
  have hB69 := Below.then hB68 hB9
  go_wp2_with fail
  go_ret
  exact ⟨by simp, Below.then hBw3 hB69⟩
end Go.Proofs.Ytagpjihhnnmhnaa
