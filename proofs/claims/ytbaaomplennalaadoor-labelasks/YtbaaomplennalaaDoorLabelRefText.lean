/-
  THE DOCUMENT's OWN decimal AND Text.
-/
import Derived.Test.YtbaaomplennalaaDoorLabelRef
namespace Go.Proofs.YtbaaomplennalaaDoor
open Go.RowKit
set_option linter.unusedSimpArgs false

theorem itoa_low (n : Int) (h0 : 0 ≤ n) (h1 : n < 10) : Lib.itoa n = [UInt8.ofNat (48 + n).toNat] := by
  unfold Lib.itoa
  rw [if_neg (by omega), Lib.decDigits, dif_pos (by omega)]
  congr 2; omega
theorem itoa_next (n : Int) (h0 : 10 ≤ n) : Lib.itoa n = Lib.itoa (n / 10) ++ Lib.itoa (n % 10) := by
  rw [itoa_low (n % 10) (by omega) (by omega)]
  unfold Lib.itoa
  rw [if_neg (by omega), if_neg (by omega), Lib.decDigits, dif_neg (by omega)]
  congr 2
  · congr 1; omega
  · congr 1; congr 1; omega

set_option maxRecDepth 4000 in
set_option maxHeartbeats 1000000 in
theorem dec_low (n : Int) (h0 : 0 ≤ n) (h1 : n < 10) (w : World) :
    Calls Tryd.prog 31 #[.int .i64 n] w fun e w' => e = .returned (.string ⟨(Lib.itoa n).toArray⟩) ∧ Below w.heap.size w w' := by
  have row : RowB (w.alloc (.cells #[.int .u8 (48 + n)] 5)) w.heap.size [UInt8.ofNat (48 + n).toNat] := by
    refine ⟨fun j hj => ?_, fun j hj => World.frozen?_alloc_new _ _ _ _, by simp⟩
    have : j = 0 := by simpa using hj
    subst this
    rw [World.cell?_alloc_at _ _ _ _ rfl]
    have e : ((UInt8.ofNat (48 + n).toNat).toNat : Int) = 48 + n := by
      simp; omega
    show some (Value.int .u8 (48 + n)) = some (Value.int .u8 ((UInt8.ofNat (48 + n).toNat).toNat : Int))
    rw [e]
  have hb := conv_back _ _ 1 _ row
  rw [← itoa_low n h0 h1] at hb
  have hb' : (convert 40 9 (.slice (some ⟨w.heap.size, 0, none⟩) 1 1)).run Tryd.prog (w.alloc (.cells #[.int .u8 (48 + n)] 5)) = .ok (.string ⟨(Lib.itoa n).toArray⟩) (w.alloc (.cells #[.int .u8 (48 + n)] 5)) := by
    rw [itoa_low n h0 h1] at hb ⊢
    exact hb
  clear hb row
  go_enter Tryd.func31, Tryd.ntmps31
  go_wp2
  go_ret
  exact ⟨rfl, alloc_below _ _⟩

theorem itoa_len2 (n : Int) (h0 : 0 ≤ n) (h1 : n < 100) : (Lib.itoa n).length ≤ 2 := by
  by_cases h : n < 10
  · rw [itoa_low n h0 h]; simp
  · rw [itoa_next n (by omega), itoa_low (n / 10) (by omega) (by omega), itoa_low (n % 10) (by omega) (by omega)]; simp
set_option maxRecDepth 4000 in
set_option maxHeartbeats 1000000 in
theorem dec_next (n : Int) (h0 : 10 ≤ n) (h1 : n < 1000) (hc : ∀ w, Calls Tryd.prog 31 #[.int .i64 (n / 10)] w fun e w' => e = .returned (.string ⟨(Lib.itoa (n / 10)).toArray⟩) ∧ Below w.heap.size w w') (w : World) :
    Calls Tryd.prog 31 #[.int .i64 n] w fun e w' => e = .returned (.string ⟨(Lib.itoa n).toArray⟩) ∧ Below w.heap.size w w' := by
  have cL := dec_low (n % 10) (by omega) (by omega)
  have l1 := itoa_len2 (n / 10) (by omega) (by omega)
  have l2 := itoa_len2 (n % 10) (by omega) (by omega)
  rw [itoa_next n h0, ← app_list]
  have s1 : ¬ 9223372036854775807 < (Lib.itoa (n / 10)).length + (Lib.itoa (n % 10)).length := by omega
  clear l1 l2
  generalize Lib.itoa (n / 10) = x at *
  generalize Lib.itoa (n % 10) = y at *
  go_enter Tryd.func31, Tryd.ntmps31
  go_wp2_with fail
  refine (hc _).mono ?_
  rintro e w1 ⟨rfl, hb1⟩
  go_wp2_with fail
  refine (cL _).mono ?_
  rintro e w2 ⟨rfl, hb2⟩
  go_wp2
  go_ret
  exact ⟨rfl, Below.then hb1 hb2⟩
theorem dec_any (n : Int) (h0 : 0 ≤ n) (h1 : n < 1000) (w : World) :
    Calls Tryd.prog 31 #[.int .i64 n] w fun e w' => e = .returned (.string ⟨(Lib.itoa n).toArray⟩) ∧ Below w.heap.size w w' := by
  by_cases a : n < 10
  · exact dec_low n h0 a w
  · refine dec_next n (by omega) h1 (fun w => ?_) w
    by_cases b : n < 100
    · exact dec_low (n / 10) (by omega) (by omega) w
    · refine dec_next (n / 10) (by omega) (by omega) (fun w => ?_) w
      exact dec_low (n / 10 / 10) (by omega) (by omega) w

set_option maxHeartbeats 1000000 in
theorem rtext_any (l : Lab) (hg : GL l) (w : World) :
    Calls Tryd.prog 22 #[l.v] w fun e w' => e = .returned (.string ⟨(textL l).toArray⟩) ∧ Below w.heap.size w w' := by
  obtain ⟨⟨a0, a1⟩, ⟨b0, b1⟩, ⟨c0, c1⟩, d0, d1⟩ := hg.fits
  have la := Lib.itoa_length_le l.s a0 a1
  have lb := Lib.itoa_length_le l.c b0 b1
  have lc := Lib.itoa_length_le l.i c0 c1
  have ld := Lib.itoa_length_le l.k d0 d1
  obtain ⟨x0, x1, x2, x3, x4, x5, x6, x7⟩ := hg
  have s1 : ¬ 9223372036854775807 < (Lib.itoa l.s).length + 1 := by omega
  have s2 : ¬ 9223372036854775807 < (Lib.itoa l.s).length + 1 + (Lib.itoa l.c).length := by omega
  have s3 : ¬ 9223372036854775807 < (Lib.itoa l.s).length + 1 + (Lib.itoa l.c).length + 1 := by omega
  have s4 : ¬ 9223372036854775807 < (Lib.itoa l.s).length + 1 + (Lib.itoa l.c).length + 1 + (Lib.itoa l.i).length := by omega
  have s5 : ¬ 9223372036854775807 < (Lib.itoa l.s).length + 1 + (Lib.itoa l.c).length + 1 + (Lib.itoa l.i).length + 1 := by omega
  have s6 : ¬ 9223372036854775807 < (Lib.itoa l.s).length + 1 + (Lib.itoa l.c).length + 1 + (Lib.itoa l.i).length + 1 + (Lib.itoa l.k).length := by omega
  have hT : (⟨(Lib.itoa l.s).toArray⟩ : ByteArray) ++ ⟨#[46]⟩ ++ ⟨(Lib.itoa l.c).toArray⟩ ++ ⟨#[46]⟩ ++ ⟨(Lib.itoa l.i).toArray⟩ ++ ⟨#[46]⟩ ++ ⟨(Lib.itoa l.k).toArray⟩ = ⟨(textL l).toArray⟩ := by
    unfold textL
    simp only [app_list]
  rw [← hT]
  clear hT
  have y1 : l.s < 1000 := by omega
  have y3 : l.c < 1000 := by omega
  have y5 : l.i < 1000 := by omega
  have y7 : l.k < 1000 := by omega
  clear la lb lc ld a0 a1 b0 b1 c0 c1 d0 d1 x1 x3 x5 x7
  have hS : Boxed (w.alloc (.cells #[.int .i64 l.s, .int .i64 l.c, .int .i64 l.i, .int .i64 l.k] 23)).drew w.heap.size l := (boxed_alloc w l).keep (Below.refl _ _).drew
  have hB := (alloc_below w (.cells #[.int .i64 l.s, .int .i64 l.c, .int .i64 l.i, .int .i64 l.k] 23)).drew
  go_enter Tryd.func22, Tryd.ntmps22
  go_wp2_with fail
  generalize (w.alloc (.cells #[.int .i64 l.s, .int .i64 l.c, .int .i64 l.i, .int .i64 l.k] 23)) = W0 at hS hB ⊢
  go_region_held (fun W => Boxed W w.heap.size l) (first | exact hS | exact Boxed.keep (by assumption) (by assumption))
    (first
    | (go_at_call 31; refine (dec_any _ (by assumption) (by assumption) _).mono ?_; rintro e w1 ⟨rfl, hb⟩; replace hB := Below.then hB hb)
    | fail)
  go_wp2
  go_ret
  exact ⟨rfl, hB⟩

/-- The document's Over is the program's. -/
theorem rov_ov {A B : NL} (okA : A.ok) (okB : B.ok) : rov A.lab B.lab = ov A.lab B.lab := by
  rw [Bool.eq_iff_iff, ov_iff okA okB, over_iff, or_and]
  unfold rov NL.lab
  simp only [band _ _ okA.2.1 okB.2.1, band _ _ okA.2.2.2 okB.2.2.2, Bool.and_eq_true, decide_eq_true_eq, beq_iff_eq]
  omega
end Go.Proofs.YtbaaomplennalaaDoor
