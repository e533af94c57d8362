/-
  THE LAWS' OWN PATHS: Of, within.
-/
import Derived.Test.YtajondkpdgiolaaLPathPure
import Derived.Lib.ConvBytes
namespace Go.Proofs.Ytajondkpdgiolaa
open Go.RowKit
set_option maxRecDepth 8000
set_option linter.unusedSimpArgs false
set_option linter.unusedVariables false

set_option maxHeartbeats 400000 in
theorem within_any (k m : Int) (h0 : 0 < m) (h1 : m < 1000000) (w : World) :
    Calls Try.prog 37 #[.int .i64 k, .int .i64 m] w fun e w' => e = .returned (.int .i64 (k % m)) ∧ w' = w := by
  have b1 := Int.lt_tmod_of_pos k h0
  have b2 := Int.tmod_lt_of_pos k h0
  have hm0 : ¬ m = 0 := by omega
  have hm1 : ¬ m = -1 := by omega
  by_cases hn : k.tmod m < 0
  · have e1 : k % m = k.tmod m + m := by
      rw [Int.tmod_eq_emod] at hn ⊢
      split at hn
      · have := Int.emod_nonneg k (by omega : m ≠ 0); omega
      · rename_i hc; rw [if_neg hc]; rw [Int.natAbs_of_nonneg (by omega)]; omega
    rw [e1]
    clear e1
    go_enter Try.func37, Try.ntmps37
    go_wp2
    go_ret
    exact ⟨rfl, rfl⟩
  · have e1 : k % m = k.tmod m := by
      rw [Int.tmod_eq_emod] at hn ⊢
      split
      · simp
      · rename_i hc
        rw [if_neg hc] at hn
        have := Int.emod_lt_of_pos k h0
        rw [Int.natAbs_of_nonneg (by omega)] at *
        omega
    rw [e1]
    clear e1
    go_enter Try.func37, Try.ntmps37
    go_wp2
    go_ret
    exact ⟨rfl, rfl⟩
/-- A text of one byte. -/
def chr (k : Nat) : ByteArray := ⟨#[UInt8.ofNat k]⟩
theorem conv_chr (w : World) (k : Nat) (hk : k < 256) : (convert 30 9 (.slice (some ⟨w.heap.size, 0, none⟩) 1 1)).run Try.prog (w.alloc (.cells #[.int .u8 (k : Int)] 5)) = .ok (.string (chr k)) (w.alloc (.cells #[.int .u8 (k : Int)] 5)) := by
  refine run_convert_bytes_back _ _ _ 5 ⟨w.heap.size, 0, none⟩ 1 [UInt8.ofNat k] Try.underlying30 Try.underlying5 Try.underlying9 fun j hj => ?_
  obtain rfl : j = 0 := by simp at hj; omega
  rw [show (⟨w.heap.size, 0, none⟩ : Addr).add 0 = ⟨w.heap.size, 0, none⟩ by simp [Addr.add], World.cell?_alloc_at _ _ _ _ rfl]
  simp
  omega

/-- The name of a number. -/
def letterOf (x : Int) : Nat := 97 + (x.tdiv 3 % 5).toNat
def nameOf (x : Int) : ByteArray := ⟨(List.replicate ((x % 3).toNat + 1) (UInt8.ofNat (letterOf x))).toArray⟩
def namesOf (l : List Int) : List ByteArray := (l.take 6).map nameOf
theorem letter_lo (x : Int) : 97 ≤ letterOf x ∧ letterOf x ≤ 101 := by unfold letterOf; omega
theorem nameOf_name (x : Int) : name (nameOf x) = true := by
  obtain ⟨h1, h2⟩ := letter_lo x
  have hs : (nameOf x).size = (x % 3).toNat + 1 := by simp [nameOf, ByteArray.size]
  have ha : (nameOf x).data.toList.all okB = true := by
    simp only [nameOf, List.all_eq_true]
    intro c hc
    have := List.eq_of_mem_replicate hc
    subst this
    have e : (UInt8.ofNat (letterOf x)).toNat = letterOf x := by simp; omega
    simp [okB, e]
    omega
  rw [name, hs, ha]
  simp
  omega
theorem namesOf_names (l : List Int) : Names (namesOf l) := by
  refine ⟨by simp [namesOf]; omega, fun n hn => ?_⟩
  obtain ⟨x, _, rfl⟩ := List.mem_map.1 hn
  exact nameOf_name x

set_option maxHeartbeats 4000000 in
theorem of_any (a : Option Addr) (l : List Int) (n cap : Nat) (w : World) (hn : l.length = n) (hmem : ∀ j, j < n → ∃ y, a = some y ∧ w.cell? (y.add j) = some (.int .i64 (l.getD j 0))) (hrng : ∀ j, -9223372036854775808 ≤ l.getD j 0 ∧ l.getD j 0 ≤ 9223372036854775807) :
    Calls Try.prog 23 #[.slice a n cap] w fun e w' => e = .returned (.string (pathB (namesOf l))) ∧ Below w.heap.size w w' := by
  go_enter Try.func23, Try.ntmps23
  go_wp2_with fail
  go_loopw [3, 4] (fun t3 t4 wr => ∃ (i : Nat) (S : ByteArray), i ≤ 6 ∧ i ≤ n ∧ t4 = .int .i64 (i : Int) ∧ t3 = .string S ∧ bytes S = body ((l.take i).map nameOf) ∧ Below w.heap.size w wr) (fun _ t4 _ => 6 - (Go.RowKit.intOf t4).toNat)
  case atStart => exact ⟨0, ⟨#[]⟩, by omega, by omega, rfl, rfl, rfl, Below.refl _ _⟩
  case round =>
    obtain ⟨i, S, hi, hin, rfl, rfl, hS, hB⟩ := hrel
    by_cases hlt : i < n
    · by_cases h6 : i < 6
      · obtain ⟨y, rfl, hc⟩ := hmem i hlt
        obtain ⟨x, hx⟩ : ∃ x, l.getD i 0 = x := ⟨_, rfl⟩
        rw [hx] at hc
        have hxr := hrng i
        rw [hx] at hxr
        have hwt : wrap64 (x.tdiv 3) = x.tdiv 3 := (Go.IntWalk.i64_left _).symm.trans (Go.IntWalk.i64_quo' x 3 (by omega))
        have hxl : l[i]? = some x := by
          rw [List.getD_eq_getElem?_getD, List.getElem?_eq_getElem (by omega)] at hx
          rw [List.getElem?_eq_getElem (by omega)]
          simpa using hx
        have hlen : (bytes S).length ≤ 13 * i := by
          rw [hS]
          refine Nat.le_trans (body_len _ (fun m hm => ?_)) (by simp; omega)
          obtain ⟨z, _, rfl⟩ := List.mem_map.1 hm
          exact nameOf_name z
        rw [bytes_len] at hlen
        have hnext : body ((l.take (i + 1)).map nameOf) = bytes S ++ 47 :: List.replicate ((x % 3).toNat + 1) (UInt8.ofNat (letterOf x)) := by
          rw [List.take_add_one, hxl, List.map_append, body_append, hS]
          simp [body, nameOf, bytes]
        obtain ⟨m, hm⟩ : ∃ m : Nat, x % 3 = (m : Int) := ⟨(x % 3).toNat, by omega⟩
        have hm3 : m ≤ 2 := by omega
        obtain ⟨kc, hkc⟩ : ∃ kc : Nat, x.tdiv 3 % 5 = (kc : Int) := ⟨(x.tdiv 3 % 5).toNat, by omega⟩
        have hk5 : kc < 5 := by omega
        have hlt97 : letterOf x = 97 + kc := by unfold letterOf; rw [hkc]; rfl
        rw [hlt97, hm] at hnext
        simp only [Int.toNat_natCast] at hnext
        have cW1 := fun W => within_any x 3 (by decide) (by decide) W
        have cW2 := fun W => within_any (x.tdiv 3) 5 (by decide) (by decide) W
        rw [hm] at cW1
        rw [hkc] at cW2
        have hcw : ∀ W, Below w.heap.size w W → W.cell? (y.add i) = some (.int .i64 x) := fun W hW => (hW.cell (World.block_lt_of_cell? _ _ hc)).trans hc
        have b1 : ¬ 9223372036854775807 < S.size + 1 := by omega
        clear hm hkc hlt97 hx hxl
        have hc0 := hcw wr hB
        have hd6 : decide ((i : Int) < 6) = true := by simp; omega
        go_wp2_with fail
        go_loopw [3, 5] (fun t3 t5 wq => ∃ (k : Nat) (S2 : ByteArray), k ≤ m + 1 ∧ t5 = .int .i64 (k : Int) ∧ t3 = .string S2 ∧ bytes S2 = bytes S ++ 47 :: List.replicate k (UInt8.ofNat (97 + kc)) ∧ Below w.heap.size w wq) (fun _ t5 _ => m + 1 - (Go.RowKit.intOf t5).toNat)
        case atStart => exact ⟨0, _, by omega, rfl, rfl, by rw [bytes_append]; rfl, hB⟩
        case round =>
          obtain ⟨k, S2, hk, rfl, rfl, hS2, hB2⟩ := hrel
          have hc2 := hcw wr hB2
          by_cases hkm : k ≤ m
          · have hcv := conv_chr wr (97 + kc) (by omega)
            have b2 : ¬ 9223372036854775807 < S2.size + 1 := by
              have := congrArg List.length hS2
              rw [bytes_len, List.length_append, bytes_len] at this
              simp at this
              omega
            have hwr : IntKind.u8.wrap (97 + (kc : Int)) = 97 + (kc : Int) := Go.IntWalk.u8_in _ (by omega)
            rw [show ((97 + kc : Nat) : Int) = 97 + (kc : Int) by omega] at hcv
            have hsz1 : (chr (97 + kc)).size = 1 := rfl
            go_wp2_with fail
            refine (cW1 _).mono ?_
            rintro e w' ⟨rfl, hw'⟩
            have hw' := hw'.symm
            subst hw'
            go_wp2_with fail
            refine (cW2 _).mono ?_
            rintro e w' ⟨rfl, hw'⟩
            have hw' := hw'.symm
            subst hw'
            have hBn : Below w.heap.size w (wr.alloc (.cells #[.int .u8 (97 + (kc : Int))] 5)) := hB2.alloc hB2.size _
            go_wp2_with fail
            go_roundw
            case rel => exact ⟨k + 1, S2 ++ chr (97 + kc), by omega, by simp, rfl, by rw [bytes_append, hS2, List.replicate_succ']; simp [chr, bytes], hBn⟩
            case measure => simp [Go.RowKit.intOf]; omega
          · obtain rfl : k = m + 1 := by omega
            have hfin : bytes S2 = body ((l.take (i + 1)).map nameOf) := by rw [hS2, hnext]
            go_wp2_with fail
            refine (cW1 _).mono ?_
            rintro e w' ⟨rfl, hw'⟩
            have hw' := hw'.symm
            subst hw'
            go_wp2_with fail
            go_roundw
            case rel => exact ⟨i + 1, S2, by omega, by omega, by simp, rfl, hfin, hB2⟩
            case measure => simp [Go.RowKit.intOf]; omega
      · obtain rfl : i = 6 := by omega
        have hS' : bytes S = body (namesOf l) := hS
        as_aux_lemma =>
          by_cases h0 : namesOf l = []
          · have e0 : S = ⟨#[]⟩ := bytes_inj (by rw [hS', h0]; rfl)
            subst e0
            go_wp2_with fail
            go_ret
            exact ⟨by rw [h0, pathB_nil]; rfl, hB⟩
          · have e0 : Aside (S = pathB (namesOf l)) := bytes_inj (by rw [hS', pathB_bytes h0])
            have e1 : ¬ S.toList = [] := by
              rw [toL]
              show ¬ bytes S = []
              rw [hS']
              intro e
              exact body_pos h0 (by rw [e]; rfl)
            have e2 : S.toList.isEmpty = false := by simpa using e1
            go_wp2_with fail
            go_ret
            exact ⟨by rw [← e0.out]; rfl, hB⟩
    · have hS' : bytes S = body (namesOf l) := by
        rw [hS, namesOf, List.take_of_length_le (by omega), List.take_of_length_le (by omega)]
      as_aux_lemma =>
        by_cases h0 : namesOf l = []
        · have e0 : S = ⟨#[]⟩ := bytes_inj (by rw [hS', h0]; rfl)
          subst e0
          go_wp2_with fail
          go_ret
          exact ⟨by rw [h0, pathB_nil]; rfl, hB⟩
        · have e0 : Aside (S = pathB (namesOf l)) := bytes_inj (by rw [hS', pathB_bytes h0])
          have e1 : ¬ S.toList = [] := by
            rw [toL]
            show ¬ bytes S = []
            rw [hS']
            intro e
            exact body_pos h0 (by rw [e]; rfl)
          have e2 : S.toList.isEmpty = false := by simpa using e1
          go_wp2_with fail
          go_ret
          exact ⟨by rw [← e0.out]; rfl, hB⟩
end Go.Proofs.Ytajondkpdgiolaa
