/-
  PACKAGE node AS IT LANDED: what it writes behind bytes (addText, addDir, addLabel, addEight, addGrants, addWords).
-/
import Derived.Test.YtecleampjeebaaaNodeNst
namespace Go.Proofs.Ytecleampjeebaaa
open Go.RowKit
set_option linter.unusedSimpArgs false
set_option linter.unusedVariables false

set_option maxHeartbeats 1000000 in
theorem addText_any (base : Nat) (v : Value) (l : List UInt8) (s : ByteArray) (hs : s.size < 100000) (hl : l.length < 800000) (w : World) (hown : OwnB w base v l) (hb : base ≤ w.heap.size) :
    Calls Try.prog 30 #[v, .string s] w fun e w' => ∃ v', e = .returned v' ∧ OwnB w' base v' (l ++ encT s) ∧ Grew w v w' v' := by
  have hwr := wrap_u8 (s.size : Int)
  obtain ⟨v1, W1, ha1, ho1, hB1⟩ := append_made w base v l [lowB s.size] #[.int .u8 ((lowB s.size).toNat : Int)] rfl hown hb (by omega) (by simp)
  obtain ⟨v2, W2, ha2, ho2, hB2⟩ := append_text W1 base v1 (l ++ [lowB s.size]) s ho1 (Nat.le_trans hb hB1.by_.size) (by simp; omega) (by omega)
  rw [List.append_assoc] at ho2
  have hBn := hB1.trans hB2
  have hlen : ([lowB s.size] : List UInt8).length = 1 := rfl
  rw [hlen] at ha1
  have ho2 : OwnB W2 base v2 (l ++ encT s) := ho2
  go_enter Try.func30, Try.ntmps30
  go_wp2_with (first | (refine wpList_append_u8 rfl _ _ rfl rfl rfl rfl ha1 ?_) | (refine wpList_append_txt rfl _ _ rfl rfl rfl rfl ha2 ?_) | fail)
  go_ret
  exact ⟨_, rfl, ho2, hBn⟩
set_option maxHeartbeats 1000000 in
theorem addDir_any (base : Nat) (v : Value) (l : List UInt8) (d : Bool) (hl : l.length < 800000) (w : World) (hown : OwnB w base v l) (hb : base ≤ w.heap.size) :
    Calls Try.prog 31 #[v, .bool d] w fun e w' => ∃ v', e = .returned v' ∧ OwnB w' base v' (l ++ [dirB d]) ∧ Grew w v w' v' := by
  obtain ⟨v1, W1, ha1, ho1, hB1⟩ := append_made w base v l [dirB d] #[.int .u8 ((dirB d).toNat : Int)] rfl hown hb (by omega) (by simp)
  have hlen : ([dirB d] : List UInt8).length = 1 := rfl
  rw [hlen] at ha1
  cases d
  · replace ha1 : (Builtin.append_ #[34, 34] 34 #[v, .slice (some ⟨w.heap.size, 0, none⟩) 1 1]).run Try.prog (w.alloc (.cells #[.int .u8 0] 5)) = .ok v1 W1 := ha1
    go_enter Try.func31, Try.ntmps31
    go_wp2_with (first | (refine wpList_append_u8 rfl _ _ rfl rfl rfl rfl ha1 ?_) | fail)
    go_ret
    exact ⟨_, rfl, ho1, hB1⟩
  · replace ha1 : (Builtin.append_ #[34, 34] 34 #[v, .slice (some ⟨w.heap.size, 0, none⟩) 1 1]).run Try.prog (w.alloc (.cells #[.int .u8 1] 5)) = .ok v1 W1 := ha1
    go_enter Try.func31, Try.ntmps31
    go_wp2_with (first | (refine wpList_append_u8 rfl _ _ rfl rfl rfl rfl ha1 ?_) | fail)
    go_ret
    exact ⟨_, rfl, ho1, hB1⟩
set_option maxHeartbeats 1000000 in
theorem addLabel_any (base : Nat) (v : Value) (l : List UInt8) (x : Lab) (hl : l.length < 800000) (w : World) (hown : OwnB w base v l) (hb : base ≤ w.heap.size) :
    Calls Try.prog 32 #[v, x.v] w fun e w' => ∃ v', e = .returned v' ∧ OwnB w' base v' (l ++ encL x) ∧ Grew w v w' v' := by
  obtain ⟨s, c, i, k⟩ := x
  have h1 := wrap_u8 s
  have h2 := wrap_u8 c
  have h3 := wrap_u8 i
  have h4 := wrap_u8 k
  have hB0 := alloc_below w (.cells #[.int .i64 s, .int .i64 c, .int .i64 i, .int .i64 k] 23)
  obtain ⟨v1, W1, ha1, ho1, hB1⟩ := append_made (w.alloc (.cells #[.int .i64 s, .int .i64 c, .int .i64 i, .int .i64 k] 23)) base v l (encL ⟨s, c, i, k⟩) #[.int .u8 ((lowB s).toNat : Int), .int .u8 ((lowB c).toNat : Int), .int .u8 ((lowB i).toNat : Int), .int .u8 ((lowB k).toNat : Int)] rfl (hown.below hB0) (by simp; omega) (by omega) (by simp [encL])
  have hBn := (Grew.alloc w v _).trans hB1
  rw [encL_len] at ha1
  rw [World.size_alloc] at ha1
  clear hB0
  go_enter Try.func32, Try.ntmps32
  go_wp2_with (first | (refine wpList_append_u8 rfl _ _ rfl rfl rfl rfl ha1 ?_) | fail)
  go_ret
  exact ⟨_, rfl, ho1, hBn⟩
theorem shr_byte (x : Int) (d : Nat) (hd : d ≤ 56) : IntKind.u8.wrap (x / 2 ^ d) = ((saltN x : Nat) : Int) / 2 ^ d % 256 := by
  rw [IntKind.wrap_u8]
  have hs : ((saltN x : Nat) : Int) = x % 18446744073709551616 := by unfold saltN; omega
  rw [hs]
  have hx := Int.mul_ediv_add_emod x 18446744073709551616
  have hp : (18446744073709551616 : Int) = 2 ^ d * (256 * 2 ^ (56 - d)) := by
    have : (2 : Int) ^ d * 2 ^ (56 - d) = 2 ^ 56 := by rw [← Int.pow_add]; congr 1; omega
    rw [show (2 : Int) ^ d * (256 * 2 ^ (56 - d)) = 256 * (2 ^ d * 2 ^ (56 - d)) by ac_rfl, this]
    rfl
  have hpos : (2 : Int) ^ d ≠ 0 := by
    have := Int.pow_pos (n := 2) (m := d) (by omega)
    omega
  have h1 : x / 2 ^ d = (256 * 2 ^ (56 - d)) * (x / 18446744073709551616) + (x % 18446744073709551616) / 2 ^ d := by
    have e : x = (x % 18446744073709551616) + 2 ^ d * ((256 * 2 ^ (56 - d)) * (x / 18446744073709551616)) := by
      rw [← Int.mul_assoc, ← hp]
      omega
    have := Int.add_mul_ediv_left (x % 18446744073709551616) ((256 * 2 ^ (56 - d)) * (x / 18446744073709551616)) hpos
    rw [← e] at this
    rw [this, Int.add_comm]
  rw [h1, Int.mul_assoc, Int.add_comm, Int.add_mul_emod_self_left]
set_option maxHeartbeats 2000000 in
theorem addEight_any (base : Nat) (v : Value) (l : List UInt8) (x : Int) (hl : l.length < 800000) (w : World) (hown : OwnB w base v l) (hb : base ≤ w.heap.size) :
    Calls Try.prog 49 #[v, .int .i64 x] w fun e w' => ∃ v', e = .returned v' ∧ OwnB w' base v' (l ++ encW x) ∧ Grew w v w' v' := by
  unfold encW
  have hs := saltN_lt x
  have hsx := shr_byte x
  obtain ⟨s, hse⟩ : ∃ s, saltN x = s := ⟨_, rfl⟩
  rw [hse] at hs hsx ⊢
  clear hse
  go_enter Try.func49, Try.ntmps49
  go_wp2_with fail
  go_loopw [0, 5] (fun t0 t5 wr => ∃ i : Nat, i ≤ 8 ∧ t5 = .int .i64 (56 - 8 * (i : Int)) ∧ OwnB wr base t0 (l ++ saltTo s i) ∧ Grew w v wr t0) (fun _ t5 _ => ((Go.RowKit.intOf t5) + 8).toNat)
  case atStart => exact ⟨0, by omega, rfl, by simpa [saltTo] using hown, Grew.refl _ _⟩
  case round =>
    obtain ⟨i, hi, rfl, ho, hB⟩ := hrel
    by_cases hlt : i < 8
    · have hlen := saltTo_len s i
      have hel : ((UInt8.ofNat (s / 2 ^ (8 * (7 - i)))).toNat : Int) = (s : Int) / 2 ^ (8 * (7 - i)) % 256 := by
        simp [UInt8.toNat_ofNat']
      obtain ⟨v2, W2, hap, ho2, hB2⟩ := append_made wr base u0 (l ++ saltTo s i) [UInt8.ofNat (s / 2 ^ (8 * (7 - i)))] #[.int .u8 ((s : Int) / 2 ^ (8 * (7 - i)) % 256)] (by rw [← hel]; rfl) ho (Nat.le_trans hb hB.by_.size) (by rw [List.length_append, hlen]; omega) (by simp)
      rw [List.append_assoc, ← saltTo_succ] at ho2
      have hBn : Grew w v W2 v2 := hB.trans hB2
      have h1 : ([UInt8.ofNat (s / 2 ^ (8 * (7 - i)))] : List UInt8).length = 1 := rfl
      rw [h1] at hap
      have hk := hsx (8 * (7 - i)) (by omega)
      clear hel hlen h1
      have hdd : (56 - 8 * (i : Int)) = ((8 * (7 - i) : Nat) : Int) := by omega
      go_wp2_with (first | (refine wpList_append_u8 rfl _ _ rfl rfl rfl rfl hap ?_) | fail)
      exact ⟨⟨i + 1, by omega, by simp; omega, ho2, hBn⟩, by simp [Go.RowKit.intOf]; omega⟩
    · obtain rfl : i = 8 := by omega
      go_wp2_with fail
      go_ret
      exact ⟨_, rfl, ho, hB⟩
end Go.Proofs.Ytecleampjeebaaa
