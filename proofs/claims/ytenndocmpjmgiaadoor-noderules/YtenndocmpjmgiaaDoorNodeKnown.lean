/-
  PACKAGE node AS IT LANDED: EncodeMessage, and the laws' known. Written by mk_nknown.py.
-/
import Derived.Test.YtenndocmpjmgiaaDoorNodeMsg
namespace Go.Proofs.YtenndocmpjmgiaaDoor
open Go.RowKit
set_option linter.unusedSimpArgs false
set_option linter.unusedVariables false

set_option maxHeartbeats 1000000 in
theorem addText_any (base : Nat) (v : Value) (l : List UInt8) (s : ByteArray) (hs : s.size < 100000) (hl : l.length < 800000) (w : World) (hown : OwnB w base v l) (hb : base ≤ w.heap.size) :
    Calls Tryd.prog 22 #[v, .string s] w fun e w' => ∃ v', e = .returned v' ∧ OwnB w' base v' (l ++ encT s) ∧ Grew w v w' v' := by
  have hwr := wrap_u8 (s.size : Int)
  obtain ⟨v1, W1, ha1, ho1, hB1⟩ := append_made w base v l [lowB s.size] #[.int .u8 ((lowB s.size).toNat : Int)] rfl hown hb (by omega) (by simp)
  obtain ⟨v2, W2, ha2, ho2, hB2⟩ := append_text W1 base v1 (l ++ [lowB s.size]) s ho1 (Nat.le_trans hb hB1.by_.size) (by simp; omega) (by omega)
  rw [List.append_assoc] at ho2
  have hBn := hB1.trans hB2
  have hlen : ([lowB s.size] : List UInt8).length = 1 := rfl
  rw [hlen] at ha1
  have ho2 : OwnB W2 base v2 (l ++ encT s) := ho2
  go_enter Tryd.func22, Tryd.ntmps22
  go_wp2_with (first | (refine wpList_append_u8 rfl _ _ rfl rfl rfl rfl ha1 ?_) | (refine wpList_append_txt rfl _ _ rfl rfl rfl rfl ha2 ?_) | fail)
  go_ret
  exact ⟨_, rfl, ho2, hBn⟩
set_option maxHeartbeats 1000000 in
theorem addLabel_any (base : Nat) (v : Value) (l : List UInt8) (x : Lab) (hl : l.length < 800000) (w : World) (hown : OwnB w base v l) (hb : base ≤ w.heap.size) :
    Calls Tryd.prog 23 #[v, x.v] w fun e w' => ∃ v', e = .returned v' ∧ OwnB w' base v' (l ++ encL x) ∧ Grew w v w' v' := by
  obtain ⟨s, c, i, k⟩ := x
  have h1 := wrap_u8 s
  have h2 := wrap_u8 c
  have h3 := wrap_u8 i
  have h4 := wrap_u8 k
  have hB0 := alloc_below w (.cells #[.int .i64 s, .int .i64 c, .int .i64 i, .int .i64 k] 23)
  obtain ⟨v1, W1, ha1, ho1, hB1⟩ := append_made (w.alloc (.cells #[.int .i64 s, .int .i64 c, .int .i64 i, .int .i64 k] 23)) base v l (encL ⟨s, c, i, k⟩) #[.int .u8 ((lowB s).toNat : Int), .int .u8 ((lowB c).toNat : Int), .int .u8 ((lowB i).toNat : Int), .int .u8 ((lowB k).toNat : Int)] rfl (hown.below hB0) (by simp; omega) (by omega) (by simp [encL])
  have hBn := (Grew.alloc w v _).trans hB1
  rw [encL_len] at ha1
  rw [World.size_alloc] at ha1
  clear hB0
  go_enter Tryd.func23, Tryd.ntmps23
  go_wp2_with (first | (refine wpList_append_u8 rfl _ _ rfl rfl rfl rfl ha1 ?_) | fail)
  go_ret
  exact ⟨_, rfl, ho1, hBn⟩
set_option maxHeartbeats 4000000 in
theorem nencM_any (m : Msg) (hm : m.Small) (w : World) :
    Calls Tryd.prog 11 #[m.v] w fun e w' => ∃ v', e = .returned v' ∧ OwnB w' w.heap.size v' (encM m) ∧ Below w.heap.size w w' := by
  have hf := hm.f
  have ht := hm.t
  have hx := hm.x
  have hS : MBox (w.alloc (.cells (mcells m) 41)) w.heap.size m := mbox_alloc w m _
  have hB : Below w.heap.size w (w.alloc (.cells (mcells m) 41)) := alloc_below _ _
  have hz : (w.alloc (.cells (mcells m) 41)).heap.size = w.heap.size + 1 := World.size_alloc _ _
  unfold mcells at hS hB hz
  go_enter Tryd.func11, Tryd.ntmps11
  go_wp2_with fail
  generalize w.alloc (.cells #[.string m.from_, .int .i64 m.label.s, .int .i64 m.label.c, .int .i64 m.label.i, .int .i64 m.label.k, .string m.to_, .int .i64 m.box.s, .int .i64 m.box.c, .int .i64 m.box.i, .int .i64 m.box.k, .string m.text] 41) = W at *
  have hz0 : w.heap.size + 1 ≤ W.heap.size := by omega
  have ho0 : OwnB W (w.heap.size + 1) (.slice none 0 0) [] := ownB_nil _ _
  refine (addText_any (w.heap.size + 1) _ [] m.from_ (by omega) (by simp) _ ho0 hz0).mono ?_
  rintro e W1 ⟨v1, rfl, ho1, hg1⟩
  have hb1 := hg1.ownB ho0 hz0
  have hS1 := hS.keep hb1
  have hz1 := Nat.le_trans hz0 hb1.size
  clear hS
  go_wp2_with fail
  refine (addLabel_any (w.heap.size + 1) _ ([] ++ encT m.from_) m.label (by simp [encT_len]; omega) _ ho1 hz1).mono ?_
  rintro e W2 ⟨v2, rfl, ho2, hg2⟩
  have hb2 := hg2.ownB ho1 hz1
  have hS2 := hS1.keep hb2
  have hz2 := Nat.le_trans hz1 hb2.size
  clear hS1
  go_wp2_with fail
  refine (addText_any (w.heap.size + 1) _ (([] ++ encT m.from_) ++ encL m.label) m.to_ (by omega) (by simp [encT_len, encL_len]; omega) _ ho2 hz2).mono ?_
  rintro e W3 ⟨v3, rfl, ho3, hg3⟩
  have hb3 := hg3.ownB ho2 hz2
  have hS3 := hS2.keep hb3
  have hz3 := Nat.le_trans hz2 hb3.size
  clear hS2
  go_wp2_with fail
  refine (addLabel_any (w.heap.size + 1) _ ((([] ++ encT m.from_) ++ encL m.label) ++ encT m.to_) m.box (by simp [encT_len, encL_len]; omega) _ ho3 hz3).mono ?_
  rintro e W4 ⟨v4, rfl, ho4, hg4⟩
  have hb4 := hg4.ownB ho3 hz3
  have hS4 := hS3.keep hb4
  have hz4 := Nat.le_trans hz3 hb4.size
  clear hS3
  go_wp2_with fail
  refine (addText_any (w.heap.size + 1) _ (((([] ++ encT m.from_) ++ encL m.label) ++ encT m.to_) ++ encL m.box) m.text (by omega) (by simp [encT_len, encL_len]; omega) _ ho4 hz4).mono ?_
  rintro e W5 ⟨v5, rfl, ho5, hg5⟩
  have hb5 := hg5.ownB ho4 hz4
  clear hS4
  go_wp2_with fail
  go_ret
  refine ⟨_, rfl, ?_, ?_⟩
  · have := ho5.lower (Nat.le_succ w.heap.size)
    simpa [encM] using this
  · exact hB.trans ((((hb1.trans hb2).trans hb3).trans hb4).trans hb5 |>.mono (Nat.le_succ _))
/-- A row of one's own, as a text. -/
theorem own_text {W : World} {base : Nat} {v : Value} {l : List UInt8} (h : OwnB W base v l) : (convert 38 9 v).run Tryd.prog W = .ok (.string ⟨l.toArray⟩) W := by
  have hrow : W.ownsRow base 5 1 v l.length (valsB l) := h
  rcases h.2 with ⟨rfl, h2⟩ | ⟨g, cap, cur, rfl, _⟩
  · obtain rfl : l = [] := List.eq_nil_of_length_eq_zero h2
    rw [run_convert_bytes_string W 38 9 5 none 0 0 Tryd.underlying38 Tryd.underlying5 Tryd.underlying9]
    rfl
  · refine run_convert_bytes_back (P := Tryd.prog) W 38 9 5 ⟨g, 0, none⟩ cap l Tryd.underlying38 Tryd.underlying5 Tryd.underlying9 fun j hj => ?_
    rw [add_at g j, hrow.cellAt j (by omega)]
    simp [valsB, List.getElem?_eq_getElem hj]
theorem nknown_any (w : World) : Calls Tryd.prog 5 #[] w fun e w' => e = .returned (.bool true) ∧ Below w.heap.size w w' := by
  have hm : (⟨⟨#[]⟩, ⟨0, 0, 3, 255⟩, ⟨#[]⟩, ⟨0, 0, 3, 255⟩, ⟨#[]⟩⟩ : Msg).Small := ⟨by decide, by decide, by decide⟩
  have k := nencM_any ⟨⟨#[]⟩, ⟨0, 0, 3, 255⟩, ⟨#[]⟩, ⟨0, 0, 3, 255⟩, ⟨#[]⟩⟩ hm w
  go_enter Tryd.func5, Tryd.ntmps5
  go_wp2_with fail
  refine k.mono ?_
  rintro e W ⟨v, rfl, ho, hB⟩
  have hcv := own_text ho
  have he : encM ⟨⟨#[]⟩, ⟨0, 0, 3, 255⟩, ⟨#[]⟩, ⟨0, 0, 3, 255⟩, ⟨#[]⟩⟩ = [0, 0, 0, 3, 255, 0, 0, 0, 3, 255, 0] := by decide
  rw [he] at hcv
  clear ho he k hm
  go_wp2
  go_ret
  exact ⟨rfl, hB⟩
end Go.Proofs.YtenndocmpjmgiaaDoor
