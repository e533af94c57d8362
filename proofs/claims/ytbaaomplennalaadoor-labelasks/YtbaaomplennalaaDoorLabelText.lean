/-
  label.Text: the four numbers, decimal, with points between; and the chapter's example (known).
-/
import Derived.Test.YtbaaomplennalaaDoorLabelBase
import Derived.Test.YtbaaomplennalaaDoorLabelShelf
import Derived.Lib.ItoaLen
namespace Go.Proofs.YtbaaomplennalaaDoor
open Go.RowKit

/-- The table that strconv.Itoa reads is as its initialiser lays it. -/
abbrev Tab (w : World) : Prop := Lib.TabIs Tryd.prog w "internal/strconv.uint64pow10" .u64 Lib.pow10Tab
theorem tabG : (Tryd.prog.globalNamed "internal/strconv.uint64pow10").isSome = true := by kernel_rfl
theorem Tab.keep {w w' : World} (h : Tab w) (hb : Below w.heap.size w w') : Tab w' :=
  let ⟨_, hg⟩ := Option.isSome_iff_exists.1 tabG
  Joins.tab_stays hg h hb (Nat.le_refl _)
theorem keepT {W W' : World} {g : Nat} {l : Lab} (hb : Below W.heap.size W W') (h : Boxed W g l ∧ Tab W) : Boxed W' g l ∧ Tab W' := ⟨h.1.keep hb, h.2.keep hb⟩

def Fits (n : Int) : Prop := -9223372036854775808 ≤ n ∧ n ≤ 9223372036854775807
def Lab.fits (l : Lab) : Prop := Fits l.s ∧ Fits l.c ∧ Fits l.i ∧ Fits l.k
def textL (l : Lab) : List UInt8 := Lib.itoa l.s ++ [46] ++ Lib.itoa l.c ++ [46] ++ Lib.itoa l.i ++ [46] ++ Lib.itoa l.k

theorem app_list (x y : List UInt8) : (⟨x.toArray⟩ : ByteArray) ++ ⟨y.toArray⟩ = ⟨(x ++ y).toArray⟩ := by
  apply ByteArray.ext
  simp [ByteArray.data_append]

set_option maxHeartbeats 1000000 in
theorem text_any (l : Lab) (hf : l.fits) (w : World) (ht : Tab w) :
    Calls Tryd.prog 21 #[l.v] w fun e w' => e = .returned (.string ⟨(textL l).toArray⟩) ∧ Below w.heap.size w w' := by
  obtain ⟨⟨a0, a1⟩, ⟨b0, b1⟩, ⟨c0, c1⟩, d0, d1⟩ := hf
  have la := Lib.itoa_length_le l.s a0 a1
  have lb := Lib.itoa_length_le l.c b0 b1
  have lc := Lib.itoa_length_le l.i c0 c1
  have ld := Lib.itoa_length_le l.k d0 d1
  have s1 : ¬ 9223372036854775807 < (Lib.itoa l.s).length + 1 := by omega
  have s2 : ¬ 9223372036854775807 < (Lib.itoa l.s).length + 1 + (Lib.itoa l.c).length := by omega
  have s3 : ¬ 9223372036854775807 < (Lib.itoa l.s).length + 1 + (Lib.itoa l.c).length + 1 := by omega
  have s4 : ¬ 9223372036854775807 < (Lib.itoa l.s).length + 1 + (Lib.itoa l.c).length + 1 + (Lib.itoa l.i).length := by omega
  have s5 : ¬ 9223372036854775807 < (Lib.itoa l.s).length + 1 + (Lib.itoa l.c).length + 1 + (Lib.itoa l.i).length + 1 := by omega
  have s6 : ¬ 9223372036854775807 < (Lib.itoa l.s).length + 1 + (Lib.itoa l.c).length + 1 + (Lib.itoa l.i).length + 1 + (Lib.itoa l.k).length := by omega
  have hT : (⟨(Lib.itoa l.s).toArray⟩ : ByteArray) ++ ⟨#[46]⟩ ++ ⟨(Lib.itoa l.c).toArray⟩ ++ ⟨#[46]⟩ ++ ⟨(Lib.itoa l.i).toArray⟩ ++ ⟨#[46]⟩ ++ ⟨(Lib.itoa l.k).toArray⟩ = ⟨(textL l).toArray⟩ := by
    unfold textL
    simp only [app_list]
  rw [← hT]
  clear hT
  have i1 := itoa_any l.s a0 a1
  have i2 := itoa_any l.c b0 b1
  have i3 := itoa_any l.i c0 c1
  have i4 := itoa_any l.k d0 d1
  clear la lb lc ld a0 a1 b0 b1 c0 c1 d0 d1
  generalize Lib.itoa l.s = t1 at *
  generalize Lib.itoa l.c = u1 at *
  generalize Lib.itoa l.i = u2 at *
  generalize Lib.itoa l.k = u3 at *
  have hS : Boxed (w.alloc (.cells #[.int .i64 l.s, .int .i64 l.c, .int .i64 l.i, .int .i64 l.k] 23)).drew w.heap.size l ∧ Tab (w.alloc (.cells #[.int .i64 l.s, .int .i64 l.c, .int .i64 l.i, .int .i64 l.k] 23)).drew :=
    ⟨(boxed_alloc w l).keep (Below.refl _ _).drew, ht.keep ((Below.refl _ _).alloc (Nat.le_refl _) _).drew⟩
  have hB := (Below.refl w.heap.size w).alloc (Nat.le_refl _) (.cells #[.int .i64 l.s, .int .i64 l.c, .int .i64 l.i, .int .i64 l.k] 23)
  go_enter Tryd.func21, Tryd.ntmps21
  go_wp2_with fail
  generalize (w.alloc (.cells #[.int .i64 l.s, .int .i64 l.c, .int .i64 l.i, .int .i64 l.k] 23)) = W0 at hS hB ⊢
  go_region_held (fun W => Boxed W w.heap.size l ∧ Tab W) (first | exact hS | exact keepT (by assumption) (by assumption))
    (first
    | (go_at_call 30; refine (i1 _ hS.2).mono ?_; rintro e w1 ⟨rfl, hb1⟩; have hT1 := hS.2.keep hb1)
    | (go_at_call 30; refine (i2 _ hT1).mono ?_; rintro e w2 ⟨rfl, hb2⟩; have hT2 := hT1.keep hb2)
    | (go_at_call 30; refine (i3 _ hT2).mono ?_; rintro e w3 ⟨rfl, hb3⟩; have hT3 := hT2.keep hb3)
    | (go_at_call 30; refine (i4 _ hT3).mono ?_; rintro e w4 ⟨rfl, hb4⟩)
    | fail)
  go_wp2
  go_ret
  exact ⟨rfl, Below.then (Below.then (Below.then (Below.then hB.drew hb1) hb2) hb3) hb4⟩

theorem known_text : (⟨(textL bottomL).toArray⟩ : ByteArray) = ⟨#[48, 46, 48, 46, 51, 46, 50, 53, 53]⟩ := by decide +kernel
theorem bottom_fits : bottomL.fits := by simp [Lab.fits, Fits, bottomL]
set_option maxHeartbeats 400000 in
theorem known_any (w : World) (ht : Tab w) :
    Calls Tryd.prog 9 #[] w fun e w' => e = .returned (.bool true) ∧ Below w.heap.size w w' := by
  have cB := bottom_any w
  have cT := fun W (h : Tab W) => text_any bottomL bottom_fits W h
  rw [known_text] at cT
  go_enter Tryd.func9, Tryd.ntmps9
  go_wp2_with fail
  refine cB.mono ?_
  rintro e w1 ⟨rfl, hb1⟩
  go_wp2_with fail
  refine (cT _ (ht.keep hb1)).mono ?_
  rintro e w2 ⟨rfl, hb2⟩
  go_wp2
  go_ret
  exact ⟨rfl, Below.then hb1 hb2⟩
end Go.Proofs.YtbaaomplennalaaDoor
