/-
  PACKAGE hash: Chain and Of; the chapter's example.
-/
import Derived.Test.YtagpjihhnnmhnaaHashOf
import Derived.Test.YtagpjihhnnmhnaaBlk
import Derived.Lib.SmallJoins
namespace Go.Proofs.Ytagpjihhnnmhnaa
open Go.RowKit
set_option linter.unusedSimpArgs false
set_option linter.unusedVariables false

set_option maxHeartbeats 1000000 in
theorem chain_any (a : Option Addr) (l : List UInt8) (n cap h : Nat) (hn : n ≤ 1000000) (hh : h < 18446744073709551616) (w : World) (hb : BytesAt w a n l) :
    Calls Try.prog 36 #[.int .u64 (h : Int), .slice a n cap] w fun e w' => e = .returned (.int .u64 (chain h l : Nat)) ∧ Below w.heap.size w w' := by
  go_enter Try.func36, Try.ntmps36
  go_wp2
  go_loopw [0, 9] (fun t0 t9 wr => ∃ i : Nat, i ≤ n ∧ t9 = .int .i64 (i : Int) ∧ t0 = .int .u64 (chain h (l.take i) : Nat) ∧ wr = w) (fun _ t9 _ => n - (Go.RowKit.intOf t9).toNat)
  case atStart => exact ⟨0, by omega, rfl, by rw [List.take_zero, chain_nil], rfl⟩
  case round =>
    obtain ⟨i, hi, rfl, rfl, rfl⟩ := hrel
    by_cases hlt : i < n
    · obtain ⟨y, rfl, hc⟩ := hb.2 i hlt
      have hnx := chain_take h l (i := i) (by rw [hb.1]; exact hlt)
      have hg := chain_lt hh (l.take i)
      obtain ⟨g, hge⟩ : ∃ g, chain h (l.take i) = g := ⟨_, rfl⟩
      rw [hge] at hnx hg ⊢
      have hcl := (l.getD i 0).toNat_lt
      obtain ⟨c, hce⟩ : ∃ c, (l.getD i 0).toNat = c := ⟨_, rfl⟩
      rw [hce] at hc hnx hcl
      have hst := st_run hg (c := c) (by omega)
      have hwc : IntKind.u64.wrap (c : Int) = (c : Int) := by rw [IntKind.wrap_u64]; omega
      go_wp2
      exact ⟨⟨i + 1, by omega, by simp, by rw [hnx], trivial⟩, by simp [Go.RowKit.intOf]; omega⟩
    · obtain rfl : i = n := by omega
      rw [← hb.1, List.take_length]
      go_wp2
      go_ret
      exact ⟨rfl, Below.refl _ _⟩

/-- The first i of eight cells hold the salt's bytes. -/
def Eight (W : World) (b s i : Nat) : Prop := ∃ vs : List Value, vs.length = 8 ∧ Blk W b vs ∧ ∀ j, j < i → vs[j]? = some (.int .u8 ((UInt8.ofNat (s / 2 ^ (8 * (7 - j)))).toNat : Int))
theorem Eight.at {W : World} {b s i : Nat} (h : Eight W b s i) {k : Nat} (hk : k < 8) : ∃ v, W.cell? ⟨b, k, none⟩ = some v ∧ W.frozen? ⟨b, k, none⟩ = false := by
  obtain ⟨vs, hl, hb, _⟩ := h
  exact ⟨_, hb k vs[k] (List.getElem?_eq_getElem (by omega))⟩
theorem Eight.next {W : World} {b s i : Nat} (h : Eight W b s i) (hi : i < 8) : Eight (W.setCell ⟨b, i, none⟩ (.int .u8 ((UInt8.ofNat (s / 2 ^ (8 * (7 - i)))).toNat : Int))) b s (i + 1) := by
  obtain ⟨vs, hl, hb, hv⟩ := h
  refine ⟨vs.set i _, by simp [hl], hb.set i _ (by omega), fun j hj => ?_⟩
  by_cases e : i = j
  · subst e
    rw [List.getElem?_set_self (by omega)]
  · rw [List.getElem?_set_ne e]
    exact hv j (by omega)
theorem Eight.bytes {W : World} {b s : Nat} (h : Eight W b s 8) : BytesAt W (some ⟨b, 0, none⟩) 8 (saltTo s 8) := by
  obtain ⟨vs, hl, hb, hv⟩ := h
  refine ⟨saltTo_len s 8, fun j hj => ⟨_, rfl, ?_⟩⟩
  rw [add_at, (hb j _ (hv j hj)).1]
  unfold saltTo
  rw [List.getD_eq_getElem?_getD, List.getElem?_map, List.getElem?_range hj]
  rfl
set_option maxHeartbeats 2000000 in
theorem of_any (x : Int) (hx : -9223372036854775808 ≤ x ∧ x ≤ 9223372036854775807) (u : ByteArray) (hu : u.size ≤ 1000000) (w : World) :
    Calls Try.prog 32 #[.int .i64 x, .string u] w fun e w' => e = .returned (.int .u64 (ofN x u.data.toList : Nat)) ∧ Below w.heap.size w w' := by
  unfold ofN
  have hs := saltN_lt x
  have hsx : IntKind.u64.wrap x = (saltN x : Int) := by rw [IntKind.wrap_u64]; unfold saltN; omega
  obtain ⟨s, hse⟩ : ∃ s, saltN x = s := ⟨_, rfl⟩
  rw [hse] at hs hsx ⊢
  clear hse
  obtain ⟨g, hg⟩ : ∃ g, chain 14695981039346656037 (saltTo s 8) = g := ⟨_, rfl⟩
  rw [hg]
  have hg : Aside (chain 14695981039346656037 (saltTo s 8) = g) := hg
  go_enter Try.func32, Try.ntmps32
  go_wp2_with fail
  go_loopw [7] (fun t7 wr => ∃ i : Nat, i ≤ 8 ∧ t7 = .int .i64 (i : Int) ∧ Eight wr w.heap.size s i ∧ Below w.heap.size w wr) (fun t7 _ => 8 - (Go.RowKit.intOf t7).toNat)
  case atStart => exact ⟨0, by omega, rfl, ⟨_, rfl, blk_alloc _ _ _, fun j hj => absurd hj (by omega)⟩, (Below.refl _ _).alloc (Nat.le_refl _) _⟩
  case round =>
    obtain ⟨i, hi, rfl, h8, hB⟩ := hrel
    by_cases hlt : i < 8
    · obtain ⟨v0, hv0, hf0⟩ := h8.at hlt
      have hnx := h8.next hlt
      have hce : ((UInt8.ofNat (s / 2 ^ (8 * (7 - i)))).toNat : Int) = (s : Int) / 2 ^ (56 - 8 * i) % 256 := by
        rw [show 56 - 8 * i = 8 * (7 - i) by omega]
        simp [UInt8.toNat_ofNat']
      rw [hce] at hnx
      have hBn : Below w.heap.size w (wr.setCell ⟨w.heap.size, i, none⟩ (.int .u8 ((s : Int) / 2 ^ (56 - 8 * i) % 256))) := hB.setCell (Nat.le_refl _) _
      clear hce
      go_wp2_with fail
      exact ⟨⟨i + 1, by omega, by simp, hnx, hBn⟩, by simp [Go.RowKit.intOf]; omega⟩
    · obtain rfl : i = 8 := by omega
      have hgl := chain_lt start_lt (saltTo s 8)
      rw [hg.out] at hgl
      have c1 := chain_any _ (saltTo s 8) 8 8 14695981039346656037 (by omega) start_lt wr h8.bytes
      rw [hg.out] at c1
      go_wp2_with fail
      refine c1.mono ?_
      rintro e w1 ⟨rfl, hB1⟩
      obtain ⟨cap2, W2, hcv, hb2, hB2⟩ := conv_str w1 u
      have c2 := chain_any _ u.data.toList u.size cap2 g (by omega) hgl W2 hb2
      go_wp2_with fail
      refine c2.mono ?_
      rintro e w' ⟨rfl, hB3⟩
      go_wp2_with fail
      go_ret
      exact ⟨rfl, Below.then (Below.then (Below.then hB hB1) hB2) hB3⟩

theorem cell_mark (w : World) (C : Array Value) (t : TypeId) (fr : Nat × Nat) (j : Nat) : (w.alloc (.cells C t fr)).cell? ⟨w.heap.size, j, none⟩ = C[j]? := World.cell?_alloc_mark w C t fr j
theorem example_st : chain 14695981039346656037 [97] = 12638187200555641996 := by
  rw [chain_one]
  decide +kernel
end Go.Proofs.Ytagpjihhnnmhnaa
