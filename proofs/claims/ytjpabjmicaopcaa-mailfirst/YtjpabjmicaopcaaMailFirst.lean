/-
  LAW MailFirst, walked. Written by mk_mailfirst.py.
-/
import Derived.Test.YtjpabjmicaopcaaMailSends
import Derived.Test.YtjpabjmicaopcaaBuild3
namespace Go.Proofs.Ytjpabjmicaopcaa
open Go.RowKit
set_option maxRecDepth 8000
set_option linter.unusedSimpArgs false
set_option linter.unusedVariables false

theorem box_two (w : World) (cs ds : List Value) (T U : TypeId) : BlkL w.heap.size cs ((w.alloc (.cells cs.toArray T)).alloc (.cells ds.toArray U)) ∧ BlkL (w.heap.size + 1) ds ((w.alloc (.cells cs.toArray T)).alloc (.cells ds.toArray U)) ∧ Below w.heap.size w ((w.alloc (.cells cs.toArray T)).alloc (.cells ds.toArray U)) := by
  have h1 := blkl_alloc w cs.toArray T
  have b1 := alloc_below w (.cells cs.toArray T)
  have h2 := blkl_alloc (w.alloc (.cells cs.toArray T)) ds.toArray U
  have b2 := alloc_below (w.alloc (.cells cs.toArray T)) (.cells ds.toArray U)
  rw [World.size_alloc] at h2
  exact ⟨stab_blk _ _ _ _ h1 b2, h2, Below.then b1 b2⟩
/-- Three rules in a block. -/
def c27 (x y z : MRul) : List Value := x.cs ++ (y.cs ++ z.cs)
theorem row_c27 {W : World} {g : Nat} {x y z : MRul} (h : BlkL g (c27 x y z) W) : RowAt 9 MRul.cs W (some ⟨g, 0, none⟩) [x, y, z] := fun j u hu => by
  refine ⟨_, rfl, fun i hi => ?_⟩
  have e : ∀ k, k < 27 → W.cell? ⟨g, k, none⟩ = (c27 x y z)[k]? := fun k hk => by
    have hk2 : k < (c27 x y z).length := hk
    rw [List.getElem?_eq_getElem hk2]
    exact (h.1 k _ (List.getElem?_eq_getElem hk2)).1
  rw [add_at]
  rcases j with _ | _ | _ | j
  · obtain rfl : x = u := by simpa using hu
    rw [show 0 * 9 + i = i by omega, e i (by omega)]
    unfold c27
    rw [List.getElem?_append_left (by show i < 9; omega)]
  · obtain rfl : y = u := by simpa using hu
    rw [show (0 + 1) * 9 + i = 9 + i by omega, e (9 + i) (by omega)]
    unfold c27
    rw [List.getElem?_append_right (by show 9 ≤ 9 + i; omega), List.getElem?_append_left (by show 9 + i - 9 < 9; omega)]
    show y.cs[9 + i - 9]? = _
    rw [show 9 + i - 9 = i by omega]
  · obtain rfl : z = u := by simpa using hu
    rw [show (0 + 1 + 1) * 9 + i = 18 + i by omega, e (18 + i) (by omega)]
    unfold c27
    rw [List.getElem?_append_right (by show 9 ≤ 18 + i; omega), List.getElem?_append_right (by show 9 ≤ 18 + i - 9; omega)]
    show z.cs[18 + i - 9 - 9]? = _
    rw [show 18 + i - 9 - 9 = i by omega]
  · simp at hu
theorem c27_at9 {W : World} {g : Nat} {x y z : MRul} (h : BlkL g (c27 x y z) W) : CellsAt W ⟨g, 9, none⟩ y.cs := cells_blk h 9 fun j v hv => by
  have hj : j < 9 := (List.getElem?_eq_some_iff.1 hv).1
  unfold c27
  rw [List.getElem?_append_right (by show 9 ≤ 9 + j; omega), List.getElem?_append_left (by show 9 + j - 9 < 9; omega)]
  show y.cs[9 + j - 9]? = _
  rw [show 9 + j - 9 = j by omega]
  exact hv
theorem c27_at18 {W : World} {g : Nat} {x y z : MRul} (h : BlkL g (c27 x y z) W) : CellsAt W ⟨g, 18, none⟩ z.cs := cells_blk h 18 fun j v hv => by
  have hj : j < 9 := (List.getElem?_eq_some_iff.1 hv).1
  unfold c27
  rw [List.getElem?_append_right (by show 9 ≤ 18 + j; omega), List.getElem?_append_right (by show 9 ≤ 18 + j - 9; omega)]
  show z.cs[18 + j - 9 - 9]? = _
  rw [show 18 + j - 9 - 9 = j by omega]
  exact hv
theorem step_oneM {ops : Array Oper} {o : Oper} {a : Act} {w : World} {Q : Exit → Act → World → Prop} {T : TypeId} {K : Act → World → Prop} {E : Prop} (hg : o.guard = none) (x : Operand) (ho : o.op = .load T x) (y : Addr) (hx : a.eval x = .pointer (some y)) (v : Value) (hc : w.cell? y = some v) (hl : ∀ w y v, w.cell? y = some v → (Instr.loadAt T (.pointer (some y))).run Try.prog w = .ok v w) (hK : K (a.put o.dst v) w) :
    if Region.wanted o (yielded ops a.tmps) = true then Oper.wp Try.prog o a w K Q else E := by
  have hw : Region.wanted o (yielded ops a.tmps) = true := by simp [Region.wanted, hg]
  rw [if_pos hw]
  unfold Oper.wp
  simp [execOp, ho, hx, hl w y v hc, Result.andThen]
  exact hK
def threeT : ByteArray := ⟨#[116, 104, 114, 101, 101]⟩
def txt (q : Int) : ByteArray := if q = 0 then ⟨#[111, 110, 101]⟩ else if q = 1 then ⟨#[116, 119, 111]⟩ else threeT
theorem and_selfM : ∀ n : Fin 256, (bits .and .i64 (n.val : Int) (n.val : Int) == (n.val : Int)) = true := by decide +kernel
theorem and_selfI {c : Int} (h : 0 ≤ c ∧ c ≤ 255) : (bits .and .i64 c c == c) = true := by
  have h1 := and_selfM ⟨c.toNat, by omega⟩
  have h2 : ((c.toNat : Nat) : Int) = c := by omega
  rw [show (((⟨c.toNat, by omega⟩ : Fin 256).val : Nat) : Int) = c from h2] at h1
  exact h1
theorem rov_selfM {a : Lab} (h1 : 0 ≤ a.c ∧ a.c ≤ 255) (h2 : 0 ≤ a.k ∧ a.k ≤ 255) : rov a a = true := by
  unfold rov
  rw [and_selfI h1, and_selfI h2]
  simp
theorem run_eq_rule (x : MRul) (w : World) : (binOp .eql 29 (.agg x.cs.toArray) (.agg x.cs.toArray)).run Try.prog w = .ok (.bool true) w := by
  have h1 := Try.underlying29
  have h2 := Try.underlying24
  unfold MRul.cs
  go_simp
theorem first_stands (b : Bool) (q : Int) (h : q = 0 ∨ q = 1 ∨ q = 2) : standsB (txt q) (cond b ⟨#[116, 119, 111]⟩ ⟨#[111, 110, 101]⟩) ((txt q).size + 1) 0 = eqs (txt q) (cond b ⟨#[116, 119, 111]⟩ ⟨#[111, 110, 101]⟩) := by
  rcases h with rfl | rfl | rfl <;> cases b <;> decide +kernel
theorem labEq_ne {x y : Lab} (h : x ≠ y) : labEq x y = false := by
  cases hl : labEq x y
  · rfl
  · exact absurd ((labEq_iff _ _).1 hl) h
theorem labEq_self (x : Lab) : labEq x x = true := (labEq_iff _ _).2 rfl
/-- The first rule of that way. -/
theorem first_rule {H L : Lab} (h : L ≠ H) (o A B f t s : ByteArray) : ruleF [⟨L, H, o⟩, ⟨H, L, A⟩, ⟨H, L, B⟩] ⟨f, H, t, L, s⟩ = some ⟨H, L, A⟩ := by
  have e1 : ruleP ⟨f, H, t, L, s⟩ ⟨L, H, o⟩ = false := by
    show (labEq L H && labEq H L) = false
    rw [labEq_ne h, Bool.false_and]
  have e2 : ruleP ⟨f, H, t, L, s⟩ ⟨H, L, A⟩ = true := by
    show (labEq H H && labEq L L) = true
    rw [labEq_self, labEq_self]
    rfl
  unfold ruleF
  rw [List.find?_cons, e1, List.find?_cons, e2]
theorem first_send {H L : Lab} (h : L ≠ H) (hH : chkL H = 0) (hL : chkL L = 0) (ho : rov L H = false) (o A B s : ByteArray) (hs : s.size ≤ 40) : sendE [⟨L, H, o⟩, ⟨H, L, A⟩, ⟨H, L, B⟩] ⟨⟨#[97]⟩, H, ⟨#[98]⟩, L, s⟩ = (2, 0) := by
  unfold sendE
  rw [first_rule h]
  refine (if_neg (show ¬ name ⟨#[97]⟩ = false by decide +kernel)).trans ((if_neg (show ¬ name ⟨#[98]⟩ = false by decide +kernel)).trans ((if_neg (show ¬ chkL H ≠ 0 by rw [hH]; decide)).trans ((if_neg (show ¬ chkL L ≠ 0 by rw [hL]; decide)).trans ((if_neg (show ¬ 40 < s.size by omega)).trans ((if_neg (show ¬ rov L H = true by rw [ho]; decide)).trans ?_)))))
  exact if_neg (by simp)
def otherT : ByteArray := ⟨#[111, 116, 104, 101, 114]⟩
def oneT : ByteArray := ⟨#[111, 110, 101]⟩
def twoT : ByteArray := ⟨#[116, 119, 111]⟩
set_option maxRecDepth 8000 in
set_option maxHeartbeats 8000000 in
theorem mailFirst_walk (hi lo : Lab) (first : Bool) (text : Int) (w : World) (hLen : LenV w) :
    Calls Try.prog 8 #[.agg (lab4 hi).toArray, .agg (lab4 lo).toArray, .bool first, .int .i64 text] w fun e w' => e = .returned (.bool true) ∧ Below w.heap.size w w' := by
  have hundL := Try.underlying24
  have hundR := Try.underlying29
  have hundM := Try.underlying26
  have hszL : ∀ t : Lab, (Try.prog.info? 24).map (·.size) = some (lab4 t).length := fun t => by show _ = some 4; kernel_rfl
  have hszM : (Try.prog.info? 26).map (·.size) = some 11 := by kernel_rfl
  have hsz9 : (Try.prog.info? 29).map (·.size) = some 9 := by kernel_rfl
  have kg1 : ∀ W, Calls Try.prog 25 #[.agg (lab4 hi).toArray] W fun e w' => e = .returned (.agg (lab4 (goodL hi)).toArray) ∧ Below W.heap.size W w' := fun W => good_any hi W
  have kg2 : ∀ W, Calls Try.prog 25 #[.agg (lab4 lo).toArray] W fun e w' => e = .returned (.agg (lab4 (goodL lo)).toArray) ∧ Below W.heap.size W w' := fun W => good_any lo W
  obtain ⟨H, hH⟩ : ∃ H, goodL hi = H := ⟨_, rfl⟩
  obtain ⟨L, hL⟩ : ∃ L, goodL lo = L := ⟨_, rfl⟩
  have hGH : chkL H = 0 := by rw [← hH]; exact chk_goodM hi
  have hGL : chkL L = 0 := by rw [← hL]; exact chk_goodM lo
  have hbH : (0 ≤ H.c ∧ H.c ≤ 255) ∧ 0 ≤ H.k ∧ H.k ≤ 255 := by
    rw [← hH]
    exact ⟨⟨by show 0 ≤ hi.c % 256; omega, by show hi.c % 256 ≤ 255; omega⟩, by show 0 ≤ hi.k % 256; omega, by show hi.k % 256 ≤ 255; omega⟩
  rw [hH] at kg1
  rw [hL] at kg2
  clear hH hL
  have kov : ∀ W, Calls Try.prog 19 #[.agg (lab4 L).toArray, .agg (lab4 H).toArray] W fun e w' => e = .returned (.bool (rov L H)) ∧ Below W.heap.size W w' := fun W => rlover_any L H W
  obtain ⟨ov, hov⟩ : ∃ ov, rov L H = ov := ⟨_, rfl⟩
  simp only [hov] at kov
  obtain ⟨hp0, hq0, hB0⟩ := box_two w (lab4 hi) (lab4 lo) 24 24
  go_enter Try.func8, Try.ntmps8
  go_upto_region 1 with fail
  generalize (w.alloc (.cells (lab4 hi).toArray 24)).alloc (.cells (lab4 lo).toArray 24) = W0 at *
  (try simp only [World.size_alloc])
  go_wp2_with fail
  refine (mknown_any W0).mono ?_
  rintro e W1 ⟨rfl, hb1⟩
  have hp1 := stab_blk _ _ _ _ hp0 hb1
  have hq1 := stab_blk _ _ _ _ hq0 hb1
  have hB1 := Below.then hB0 hb1
  clear hp0 hq0 hB0 hb1
  go_upto_region 3 with fail
  have hS0 : Below W1.heap.size W1 W1.drew := (Below.refl _ _).drew
  have hp := stab_blk _ _ _ _ hp1 hS0
  have hq := stab_blk _ _ _ _ hq1 hS0
  have hB := Below.then hB1 hS0
  clear hS0 hp1 hq1 hB1
  go_cut [18] from 18 to 21 (fun s18 wd => BlkL w.heap.size (lab4 H) wd ∧ BlkL (w.heap.size + 1) (lab4 L) wd ∧ Below w.heap.size w wd)
  · skip
    refine wp_region_held_drew (S := (fun _ => True)) (by kernel_rfl) (trivial) ?_
    intro hHeld
    generalize W1.drew = w0 at *
    refine wpAnyH_ready (rs := [0, 2]) (by kernel_rfl) (by simp) ?_
    refine AllReadyH.cons (by simp only [List.getElem?_toArray, List.getElem?_cons_zero, List.getElem?_cons_succ]; rfl) (fun K hK => ?_) ?_
    · skip
      refine step_load_atM rfl _ rfl ⟨w.heap.size, 0, none⟩ rfl (lab4 hi) (cells_blk hp 0 (fun j v hv => by rwa [Nat.zero_add])) hundL rfl (hszL hi) ?_
      (try simp only [Act.put, List.setIfInBounds_toArray, List.set_cons_zero, List.set_cons_succ])
      refine hK.out _ _ (trivial) ?_
      clear hHeld hK
      intro hHeld
      obtain ⟨w1, hw⟩ : ∃ X, w0 = X := ⟨_, rfl⟩
      rw [hw] at hp hq hB ⊢
      clear hw
      (try simp only [Act.put, List.setIfInBounds_toArray, List.set_cons_zero, List.set_cons_succ])
      refine wpAnyH_ready (rs := [1, 2]) (by kernel_rfl) (by simp) ?_
      refine AllReadyH.cons (by simp only [List.getElem?_toArray, List.getElem?_cons_zero, List.getElem?_cons_succ]; rfl) (fun K hK => ?_) ?_
      · go_simp
        refine (kg1 w1).mono ?_
        rintro e w2 ⟨rfl, hb⟩
        replace hp := stab_blk _ _ _ _ hp hb
        replace hq := stab_blk _ _ _ _ hq hb
        replace hB := Below.then hB hb
        clear hb
        refine hK.out _ _ (trivial) ?_
        clear hHeld hK
        intro hHeld
        (try simp only [Act.put, List.setIfInBounds_toArray, List.set_cons_zero, List.set_cons_succ])
        refine wpAnyH_ready (rs := [2]) (by kernel_rfl) (by simp) ?_
        refine AllReadyH.cons (by simp only [List.getElem?_toArray, List.getElem?_cons_zero, List.getElem?_cons_succ]; rfl) (fun K hK => ?_) AllReadyH.nil
        refine step_load_atM rfl _ rfl ⟨(w.heap.size + 1), 0, none⟩ rfl (lab4 lo) (cells_blk hq 0 (fun j v hv => by rwa [Nat.zero_add])) hundL rfl (hszL lo) ?_
        (try simp only [Act.put, List.setIfInBounds_toArray, List.set_cons_zero, List.set_cons_succ])
        refine hK.out _ _ (trivial) ?_
        clear hHeld hK
        intro hHeld
        obtain ⟨w3, hw⟩ : ∃ X, w2 = X := ⟨_, rfl⟩
        rw [hw] at hp hq hB ⊢
        clear hw
        (try simp only [Act.put, List.setIfInBounds_toArray, List.set_cons_zero, List.set_cons_succ])
        refine wpAnyH_ready (rs := [3]) (by kernel_rfl) (by simp) ?_
        refine AllReadyH.cons (by simp only [List.getElem?_toArray, List.getElem?_cons_zero, List.getElem?_cons_succ]; rfl) (fun K hK => ?_) AllReadyH.nil
        go_simp
        refine (kg2 w3).mono ?_
        rintro e w4 ⟨rfl, hb⟩
        replace hp := stab_blk _ _ _ _ hp hb
        replace hq := stab_blk _ _ _ _ hq hb
        replace hB := Below.then hB hb
        clear hb
        refine hK.out _ _ (trivial) ?_
        clear hHeld hK
        intro hHeld
        (try simp only [Act.put, List.setIfInBounds_toArray, List.set_cons_zero, List.set_cons_succ])
        refine wpAnyH_ready (rs := [4]) (by kernel_rfl) (by simp) ?_
        refine AllReadyH.cons (by simp only [List.getElem?_toArray, List.getElem?_cons_zero, List.getElem?_cons_succ]; rfl) (fun K hK => ?_) AllReadyH.nil
        obtain ⟨w5, hV9, hth9, h9, hk9⟩ := mput_any hp (ds := lab4 H) rfl (by show 0 < 4; decide)
        have hB9 := hk9 w.heap.size w (by omega) hB
        have hs9 : w4.heap.size ≤ w5.heap.size := (hk9 0 w4 (Nat.zero_le _) (Below.refl 0 _)).size
        have h8 : BlkL (w.heap.size + 1) _ w5 := ⟨hq.1.same (by rw [← hV9]; exact heap_setCells_other (by omega) _ _ _), Nat.lt_of_lt_of_le hq.2 hs9⟩
        refine step_store_rowM rfl _ _ rfl w.heap.size rfl (lab4 H) rfl hth9 (hszL _) (lab4_one _) hV9 ?_
        (try simp only [Act.put, List.setIfInBounds_toArray, List.set_cons_zero, List.set_cons_succ])
        refine hK.out _ _ (trivial) ?_
        clear hHeld hK
        intro hHeld
        replace hp := h9
        replace hq := h8
        replace hB := hB9
        clear hV9 hth9 h9 h8 hB9 hs9 hk9
        (try simp only [Act.put, List.setIfInBounds_toArray, List.set_cons_zero, List.set_cons_succ])
        refine wpAnyH_ready (rs := [5]) (by kernel_rfl) (by simp) ?_
        refine AllReadyH.cons (by simp only [List.getElem?_toArray, List.getElem?_cons_zero, List.getElem?_cons_succ]; rfl) (fun K hK => ?_) AllReadyH.nil
        obtain ⟨w6, hV9, hth9, h9, hk9⟩ := mput_any hq (ds := lab4 L) rfl (by show 0 < 4; decide)
        have hB9 := hk9 w.heap.size w (by omega) hB
        have hs9 : w5.heap.size ≤ w6.heap.size := (hk9 0 w5 (Nat.zero_le _) (Below.refl 0 _)).size
        have h8 : BlkL w.heap.size _ w6 := ⟨hp.1.same (by rw [← hV9]; exact heap_setCells_other (by omega) _ _ _), Nat.lt_of_lt_of_le hp.2 hs9⟩
        refine step_store_rowM rfl _ _ rfl (w.heap.size + 1) rfl (lab4 L) rfl hth9 (hszL _) (lab4_one _) hV9 ?_
        (try simp only [Act.put, List.setIfInBounds_toArray, List.set_cons_zero, List.set_cons_succ])
        refine hK.out _ _ (trivial) ?_
        clear hHeld hK
        intro hHeld
        replace hq := h9
        replace hp := h8
        replace hB := hB9
        clear hV9 hth9 h9 h8 hB9 hs9 hk9
        (try simp only [Act.put, List.setIfInBounds_toArray, List.set_cons_zero, List.set_cons_succ])
        refine wpAnyH_done (by kernel_rfl) ?_ _
        clear hHeld
        go_wp2_with fail
        go_meet
        exact ⟨hp, hq, hB⟩
      refine AllReadyH.cons (by simp only [List.getElem?_toArray, List.getElem?_cons_zero, List.getElem?_cons_succ]; rfl) (fun K hK => ?_) AllReadyH.nil
      refine step_load_atM rfl _ rfl ⟨(w.heap.size + 1), 0, none⟩ rfl (lab4 lo) (cells_blk hq 0 (fun j v hv => by rwa [Nat.zero_add])) hundL rfl (hszL lo) ?_
      (try simp only [Act.put, List.setIfInBounds_toArray, List.set_cons_zero, List.set_cons_succ])
      refine hK.out _ _ (trivial) ?_
      clear hHeld hK
      intro hHeld
      obtain ⟨w2, hw⟩ : ∃ X, w1 = X := ⟨_, rfl⟩
      rw [hw] at hp hq hB ⊢
      clear hw
      (try simp only [Act.put, List.setIfInBounds_toArray, List.set_cons_zero, List.set_cons_succ])
      refine wpAnyH_ready (rs := [1]) (by kernel_rfl) (by simp) ?_
      refine AllReadyH.cons (by simp only [List.getElem?_toArray, List.getElem?_cons_zero, List.getElem?_cons_succ]; rfl) (fun K hK => ?_) AllReadyH.nil
      go_simp
      refine (kg1 w2).mono ?_
      rintro e w3 ⟨rfl, hb⟩
      replace hp := stab_blk _ _ _ _ hp hb
      replace hq := stab_blk _ _ _ _ hq hb
      replace hB := Below.then hB hb
      clear hb
      refine hK.out _ _ (trivial) ?_
      clear hHeld hK
      intro hHeld
      (try simp only [Act.put, List.setIfInBounds_toArray, List.set_cons_zero, List.set_cons_succ])
      refine wpAnyH_ready (rs := [3]) (by kernel_rfl) (by simp) ?_
      refine AllReadyH.cons (by simp only [List.getElem?_toArray, List.getElem?_cons_zero, List.getElem?_cons_succ]; rfl) (fun K hK => ?_) AllReadyH.nil
      go_simp
      refine (kg2 w3).mono ?_
      rintro e w4 ⟨rfl, hb⟩
      replace hp := stab_blk _ _ _ _ hp hb
      replace hq := stab_blk _ _ _ _ hq hb
      replace hB := Below.then hB hb
      clear hb
      refine hK.out _ _ (trivial) ?_
      clear hHeld hK
      intro hHeld
      (try simp only [Act.put, List.setIfInBounds_toArray, List.set_cons_zero, List.set_cons_succ])
      refine wpAnyH_ready (rs := [4]) (by kernel_rfl) (by simp) ?_
      refine AllReadyH.cons (by simp only [List.getElem?_toArray, List.getElem?_cons_zero, List.getElem?_cons_succ]; rfl) (fun K hK => ?_) AllReadyH.nil
      obtain ⟨w5, hV9, hth9, h9, hk9⟩ := mput_any hp (ds := lab4 H) rfl (by show 0 < 4; decide)
      have hB9 := hk9 w.heap.size w (by omega) hB
      have hs9 : w4.heap.size ≤ w5.heap.size := (hk9 0 w4 (Nat.zero_le _) (Below.refl 0 _)).size
      have h8 : BlkL (w.heap.size + 1) _ w5 := ⟨hq.1.same (by rw [← hV9]; exact heap_setCells_other (by omega) _ _ _), Nat.lt_of_lt_of_le hq.2 hs9⟩
      refine step_store_rowM rfl _ _ rfl w.heap.size rfl (lab4 H) rfl hth9 (hszL _) (lab4_one _) hV9 ?_
      (try simp only [Act.put, List.setIfInBounds_toArray, List.set_cons_zero, List.set_cons_succ])
      refine hK.out _ _ (trivial) ?_
      clear hHeld hK
      intro hHeld
      replace hp := h9
      replace hq := h8
      replace hB := hB9
      clear hV9 hth9 h9 h8 hB9 hs9 hk9
      (try simp only [Act.put, List.setIfInBounds_toArray, List.set_cons_zero, List.set_cons_succ])
      refine wpAnyH_ready (rs := [5]) (by kernel_rfl) (by simp) ?_
      refine AllReadyH.cons (by simp only [List.getElem?_toArray, List.getElem?_cons_zero, List.getElem?_cons_succ]; rfl) (fun K hK => ?_) AllReadyH.nil
      obtain ⟨w6, hV9, hth9, h9, hk9⟩ := mput_any hq (ds := lab4 L) rfl (by show 0 < 4; decide)
      have hB9 := hk9 w.heap.size w (by omega) hB
      have hs9 : w5.heap.size ≤ w6.heap.size := (hk9 0 w5 (Nat.zero_le _) (Below.refl 0 _)).size
      have h8 : BlkL w.heap.size _ w6 := ⟨hp.1.same (by rw [← hV9]; exact heap_setCells_other (by omega) _ _ _), Nat.lt_of_lt_of_le hp.2 hs9⟩
      refine step_store_rowM rfl _ _ rfl (w.heap.size + 1) rfl (lab4 L) rfl hth9 (hszL _) (lab4_one _) hV9 ?_
      (try simp only [Act.put, List.setIfInBounds_toArray, List.set_cons_zero, List.set_cons_succ])
      refine hK.out _ _ (trivial) ?_
      clear hHeld hK
      intro hHeld
      replace hq := h9
      replace hp := h8
      replace hB := hB9
      clear hV9 hth9 h9 h8 hB9 hs9 hk9
      (try simp only [Act.put, List.setIfInBounds_toArray, List.set_cons_zero, List.set_cons_succ])
      refine wpAnyH_done (by kernel_rfl) ?_ _
      clear hHeld
      go_wp2_with fail
      go_meet
      exact ⟨hp, hq, hB⟩
    refine AllReadyH.cons (by simp only [List.getElem?_toArray, List.getElem?_cons_zero, List.getElem?_cons_succ]; rfl) (fun K hK => ?_) AllReadyH.nil
    refine step_load_atM rfl _ rfl ⟨(w.heap.size + 1), 0, none⟩ rfl (lab4 lo) (cells_blk hq 0 (fun j v hv => by rwa [Nat.zero_add])) hundL rfl (hszL lo) ?_
    (try simp only [Act.put, List.setIfInBounds_toArray, List.set_cons_zero, List.set_cons_succ])
    refine hK.out _ _ (trivial) ?_
    clear hHeld hK
    intro hHeld
    obtain ⟨w1, hw⟩ : ∃ X, w0 = X := ⟨_, rfl⟩
    rw [hw] at hp hq hB ⊢
    clear hw
    (try simp only [Act.put, List.setIfInBounds_toArray, List.set_cons_zero, List.set_cons_succ])
    refine wpAnyH_ready (rs := [0]) (by kernel_rfl) (by simp) ?_
    refine AllReadyH.cons (by simp only [List.getElem?_toArray, List.getElem?_cons_zero, List.getElem?_cons_succ]; rfl) (fun K hK => ?_) AllReadyH.nil
    refine step_load_atM rfl _ rfl ⟨w.heap.size, 0, none⟩ rfl (lab4 hi) (cells_blk hp 0 (fun j v hv => by rwa [Nat.zero_add])) hundL rfl (hszL hi) ?_
    (try simp only [Act.put, List.setIfInBounds_toArray, List.set_cons_zero, List.set_cons_succ])
    refine hK.out _ _ (trivial) ?_
    clear hHeld hK
    intro hHeld
    obtain ⟨w2, hw⟩ : ∃ X, w1 = X := ⟨_, rfl⟩
    rw [hw] at hp hq hB ⊢
    clear hw
    (try simp only [Act.put, List.setIfInBounds_toArray, List.set_cons_zero, List.set_cons_succ])
    refine wpAnyH_ready (rs := [1]) (by kernel_rfl) (by simp) ?_
    refine AllReadyH.cons (by simp only [List.getElem?_toArray, List.getElem?_cons_zero, List.getElem?_cons_succ]; rfl) (fun K hK => ?_) AllReadyH.nil
    go_simp
    refine (kg1 w2).mono ?_
    rintro e w3 ⟨rfl, hb⟩
    replace hp := stab_blk _ _ _ _ hp hb
    replace hq := stab_blk _ _ _ _ hq hb
    replace hB := Below.then hB hb
    clear hb
    refine hK.out _ _ (trivial) ?_
    clear hHeld hK
    intro hHeld
    (try simp only [Act.put, List.setIfInBounds_toArray, List.set_cons_zero, List.set_cons_succ])
    refine wpAnyH_ready (rs := [3]) (by kernel_rfl) (by simp) ?_
    refine AllReadyH.cons (by simp only [List.getElem?_toArray, List.getElem?_cons_zero, List.getElem?_cons_succ]; rfl) (fun K hK => ?_) AllReadyH.nil
    go_simp
    refine (kg2 w3).mono ?_
    rintro e w4 ⟨rfl, hb⟩
    replace hp := stab_blk _ _ _ _ hp hb
    replace hq := stab_blk _ _ _ _ hq hb
    replace hB := Below.then hB hb
    clear hb
    refine hK.out _ _ (trivial) ?_
    clear hHeld hK
    intro hHeld
    (try simp only [Act.put, List.setIfInBounds_toArray, List.set_cons_zero, List.set_cons_succ])
    refine wpAnyH_ready (rs := [4]) (by kernel_rfl) (by simp) ?_
    refine AllReadyH.cons (by simp only [List.getElem?_toArray, List.getElem?_cons_zero, List.getElem?_cons_succ]; rfl) (fun K hK => ?_) AllReadyH.nil
    obtain ⟨w5, hV9, hth9, h9, hk9⟩ := mput_any hp (ds := lab4 H) rfl (by show 0 < 4; decide)
    have hB9 := hk9 w.heap.size w (by omega) hB
    have hs9 : w4.heap.size ≤ w5.heap.size := (hk9 0 w4 (Nat.zero_le _) (Below.refl 0 _)).size
    have h8 : BlkL (w.heap.size + 1) _ w5 := ⟨hq.1.same (by rw [← hV9]; exact heap_setCells_other (by omega) _ _ _), Nat.lt_of_lt_of_le hq.2 hs9⟩
    refine step_store_rowM rfl _ _ rfl w.heap.size rfl (lab4 H) rfl hth9 (hszL _) (lab4_one _) hV9 ?_
    (try simp only [Act.put, List.setIfInBounds_toArray, List.set_cons_zero, List.set_cons_succ])
    refine hK.out _ _ (trivial) ?_
    clear hHeld hK
    intro hHeld
    replace hp := h9
    replace hq := h8
    replace hB := hB9
    clear hV9 hth9 h9 h8 hB9 hs9 hk9
    (try simp only [Act.put, List.setIfInBounds_toArray, List.set_cons_zero, List.set_cons_succ])
    refine wpAnyH_ready (rs := [5]) (by kernel_rfl) (by simp) ?_
    refine AllReadyH.cons (by simp only [List.getElem?_toArray, List.getElem?_cons_zero, List.getElem?_cons_succ]; rfl) (fun K hK => ?_) AllReadyH.nil
    obtain ⟨w6, hV9, hth9, h9, hk9⟩ := mput_any hq (ds := lab4 L) rfl (by show 0 < 4; decide)
    have hB9 := hk9 w.heap.size w (by omega) hB
    have hs9 : w5.heap.size ≤ w6.heap.size := (hk9 0 w5 (Nat.zero_le _) (Below.refl 0 _)).size
    have h8 : BlkL w.heap.size _ w6 := ⟨hp.1.same (by rw [← hV9]; exact heap_setCells_other (by omega) _ _ _), Nat.lt_of_lt_of_le hp.2 hs9⟩
    refine step_store_rowM rfl _ _ rfl (w.heap.size + 1) rfl (lab4 L) rfl hth9 (hszL _) (lab4_one _) hV9 ?_
    (try simp only [Act.put, List.setIfInBounds_toArray, List.set_cons_zero, List.set_cons_succ])
    refine hK.out _ _ (trivial) ?_
    clear hHeld hK
    intro hHeld
    replace hq := h9
    replace hp := h8
    replace hB := hB9
    clear hV9 hth9 h9 h8 hB9 hs9 hk9
    (try simp only [Act.put, List.setIfInBounds_toArray, List.set_cons_zero, List.set_cons_succ])
    refine wpAnyH_done (by kernel_rfl) ?_ _
    clear hHeld
    go_wp2_with fail
    go_meet
    exact ⟨hp, hq, hB⟩
  case rest =>
  obtain ⟨hp2, hq2, hB2⟩ := hcut
  obtain ⟨W2, hW2⟩ : ∃ W2, wc = W2 := ⟨_, rfl⟩
  rw [hW2] at hp2 hq2 hB2 ⊢
  clear hW2 hp hq hB kg1 kg2
  have hpr := hp2.range
  have hqr := hq2.range
  go_wp2_with (first | (refine wpList_load_row rfl _ rfl w.heap.size rfl (lab4 H) hpr hundL rfl (hszL H) ?_) | (refine wpList_load_row rfl _ rfl (w.heap.size + 1) rfl (lab4 L) hqr hundL rfl (hszL L) ?_) | fail)
  refine (kov W2).mono ?_
  rintro e W3 ⟨rfl, hb3⟩
  have hp3 := stab_blk _ _ _ _ hp2 hb3
  have hq3 := stab_blk _ _ _ _ hq2 hb3
  have hB3 := Below.then hB2 hb3
  clear hp2 hq2 hB2 hb3 kov hpr hqr
  have hpr := hp3.range
  have hqr := hq3.range
  cases ov
  case true =>
    go_wp2_with fail
    go_ret
    exact ⟨rfl, hB3⟩
  have hm4 := blkl_alloc W3 (MRul.cs ⟨L, H, otherT⟩ ++ (MRul.cs ⟨H, L, oneT⟩ ++ MRul.cs ⟨H, L, twoT⟩)).toArray 29
  have hb4 := alloc_below W3 (.cells (MRul.cs ⟨L, H, otherT⟩ ++ (MRul.cs ⟨H, L, oneT⟩ ++ MRul.cs ⟨H, L, twoT⟩)).toArray 29)
  have hp4 := stab_blk _ _ _ _ hp3 hb4
  have hq4 := stab_blk _ _ _ _ hq3 hb4
  replace hm4 : BlkL W3.heap.size (c27 ⟨L, H, otherT⟩ ⟨H, L, oneT⟩ ⟨H, L, twoT⟩) _ := hm4
  have hgr : w.heap.size + 1 < W3.heap.size := hq3.2
  replace hb4 := Below.then hB3 hb4
  go_upto_region 7 with (first | (refine wpList_load_row rfl _ rfl w.heap.size rfl (lab4 H) hpr hundL rfl (hszL H) ?_) | (refine wpList_load_row rfl _ rfl (w.heap.size + 1) rfl (lab4 L) hqr hundL rfl (hszL L) ?_) | (refine wpList_build3 mr_ok (by decide) rfl _ _ _ rfl (MRul.cs ⟨L, H, otherT⟩) (MRul.cs ⟨H, L, oneT⟩) (MRul.cs ⟨H, L, twoT⟩) rfl rfl rfl rfl rfl rfl ?_) | fail)
  obtain ⟨W4, hW4⟩ : ∃ X, W3.alloc (.cells (MRul.cs ⟨L, H, otherT⟩ ++ (MRul.cs ⟨H, L, oneT⟩ ++ MRul.cs ⟨H, L, twoT⟩)).toArray 29) = X := ⟨_, rfl⟩
  rw [hW4] at hm4 hp4 hq4 hb4 ⊢
  clear hW4 hp3 hq3 hB3 hpr hqr
  generalize W3.heap.size = gr at *
  go_upto_if 35 with fail
  go_cut [9] from 36 to 45 (fun s9 wd => s9 = .slice (some ⟨gr, 0, none⟩) 3 3 ∧ BlkL gr (c27 ⟨L, H, otherT⟩ ⟨H, L, cond first twoT oneT⟩ ⟨H, L, cond first oneT twoT⟩) wd ∧ BlkL w.heap.size (lab4 H) wd ∧ BlkL (w.heap.size + 1) (lab4 L) wd ∧ Below w.heap.size w wd)
  · cases first
    · go_wp2_with fail
      go_meet
      exact ⟨rfl, hm4, hp4, hq4, hb4⟩
    · go_upto_region 8 with fail
      obtain ⟨U, hU⟩ : ∃ U, W4 = U := ⟨_, rfl⟩
      rw [hU] at hm4 hp4 hq4 hb4 ⊢
      clear hU
      have hS0 : Below U.heap.size U U.drew := (Below.refl _ _).drew
      have hm := stab_blk _ _ _ _ hm4 hS0
      have hp := stab_blk _ _ _ _ hp4 hS0
      have hq := stab_blk _ _ _ _ hq4 hS0
      have hB := Below.then hb4 hS0
      clear hS0 hm4 hp4 hq4 hb4
      refine wp_region_held_drew (S := (fun _ => True)) (by kernel_rfl) (trivial) ?_
      intro hHeld
      generalize U.drew = w0 at *
      refine wpAnyH_take (i := 0) (v := ?_) (by simp only [List.getElem?_toArray, List.getElem?_cons_zero, List.getElem?_cons_succ]; rfl) (by kernel_rfl) (by kernel_rfl) (by kernel_rfl) (by exact fun _ _ _ h => h) (Or.inl ⟨by rfl, ?_⟩) (by assumption) ?_; rotate_left; (focus (intro w hSw; (try dsimp only at hSw); go_simp; try with_reducible rfl)); (try simp only [Act.put, List.setIfInBounds_toArray, List.set_cons_zero, List.set_cons_succ])
      refine wpAnyH_take (i := 1) (v := ?_) (by simp only [List.getElem?_toArray, List.getElem?_cons_zero, List.getElem?_cons_succ]; rfl) (by kernel_rfl) (by kernel_rfl) (by kernel_rfl) (by exact fun _ _ _ h => h) (Or.inl ⟨by rfl, ?_⟩) (by assumption) ?_; rotate_left; (focus (intro w hSw; (try dsimp only at hSw); go_simp; try with_reducible rfl)); (try simp only [Act.put, List.setIfInBounds_toArray, List.set_cons_zero, List.set_cons_succ])
      refine wpAnyH_take (i := 2) (v := ?_) (by simp only [List.getElem?_toArray, List.getElem?_cons_zero, List.getElem?_cons_succ]; rfl) (by kernel_rfl) (by kernel_rfl) (by kernel_rfl) (by exact fun _ _ _ h => h) (Or.inl ⟨by rfl, ?_⟩) (by assumption) ?_; rotate_left; (focus (intro w hSw; (try dsimp only at hSw); go_simp; try with_reducible rfl)); (try simp only [Act.put, List.setIfInBounds_toArray, List.set_cons_zero, List.set_cons_succ])
      refine wpAnyH_take (i := 3) (v := ?_) (by simp only [List.getElem?_toArray, List.getElem?_cons_zero, List.getElem?_cons_succ]; rfl) (by kernel_rfl) (by kernel_rfl) (by kernel_rfl) (by exact fun _ _ _ h => h) (Or.inl ⟨by rfl, ?_⟩) (by assumption) ?_; rotate_left; (focus (intro w hSw; (try dsimp only at hSw); go_simp; try with_reducible rfl)); (try simp only [Act.put, List.setIfInBounds_toArray, List.set_cons_zero, List.set_cons_succ])
      refine wpAnyH_take (i := 5) (v := ?_) (by simp only [List.getElem?_toArray, List.getElem?_cons_zero, List.getElem?_cons_succ]; rfl) (by kernel_rfl) (by kernel_rfl) (by kernel_rfl) (by exact fun _ _ _ h => h) (Or.inl ⟨by rfl, ?_⟩) (by assumption) ?_; rotate_left; (focus (intro w hSw; (try dsimp only at hSw); go_simp; try with_reducible rfl)); (try simp only [Act.put, List.setIfInBounds_toArray, List.set_cons_zero, List.set_cons_succ])
      refine wpAnyH_take (i := 6) (v := ?_) (by simp only [List.getElem?_toArray, List.getElem?_cons_zero, List.getElem?_cons_succ]; rfl) (by kernel_rfl) (by kernel_rfl) (by kernel_rfl) (by exact fun _ _ _ h => h) (Or.inl ⟨by rfl, ?_⟩) (by assumption) ?_; rotate_left; (focus (intro w hSw; (try dsimp only at hSw); go_simp; try with_reducible rfl)); (try simp only [Act.put, List.setIfInBounds_toArray, List.set_cons_zero, List.set_cons_succ])
      refine wpAnyH_ready (rs := [4, 7]) (by kernel_rfl) (by simp) ?_
      refine AllReadyH.cons (by simp only [List.getElem?_toArray, List.getElem?_cons_zero, List.getElem?_cons_succ]; rfl) (fun K hK => ?_) ?_
      · skip
        have hc : CellsAt w0 ⟨gr, 18, none⟩ (MRul.cs ⟨H, L, twoT⟩) := c27_at18 hm
        refine step_load_atM rfl _ rfl ⟨gr, 18, none⟩ rfl (MRul.cs ⟨H, L, twoT⟩) hc hundR rfl hsz9 ?_
        (try simp only [Act.put, List.setIfInBounds_toArray, List.set_cons_zero, List.set_cons_succ])
        refine hK.out _ _ (trivial) ?_
        clear hHeld hK
        intro hHeld
        clear hc
        obtain ⟨w1, hw⟩ : ∃ X, w0 = X := ⟨_, rfl⟩
        rw [hw] at hm hp hq hB ⊢
        clear hw
        (try simp only [Act.put, List.setIfInBounds_toArray, List.set_cons_zero, List.set_cons_succ])
        refine wpAnyH_ready (rs := [7]) (by kernel_rfl) (by simp) ?_
        refine AllReadyH.cons (by simp only [List.getElem?_toArray, List.getElem?_cons_zero, List.getElem?_cons_succ]; rfl) (fun K hK => ?_) AllReadyH.nil
        have hc : CellsAt w1 ⟨gr, 9, none⟩ (MRul.cs ⟨H, L, oneT⟩) := c27_at9 hm
        refine step_load_atM rfl _ rfl ⟨gr, 9, none⟩ rfl (MRul.cs ⟨H, L, oneT⟩) hc hundR rfl hsz9 ?_
        (try simp only [Act.put, List.setIfInBounds_toArray, List.set_cons_zero, List.set_cons_succ])
        refine hK.out _ _ (trivial) ?_
        clear hHeld hK
        intro hHeld
        clear hc
        obtain ⟨w2, hw⟩ : ∃ X, w1 = X := ⟨_, rfl⟩
        rw [hw] at hm hp hq hB ⊢
        clear hw
        (try simp only [Act.put, List.setIfInBounds_toArray, List.set_cons_zero, List.set_cons_succ])
        refine wpAnyH_take (i := 8) (v := ?_) (by simp only [List.getElem?_toArray, List.getElem?_cons_zero, List.getElem?_cons_succ]; rfl) (by kernel_rfl) (by kernel_rfl) (by kernel_rfl) (by exact fun _ _ _ h => h) (Or.inl ⟨by rfl, ?_⟩) (by assumption) ?_; rotate_left; (focus (intro w hSw; (try dsimp only at hSw); go_simp; try with_reducible rfl)); (try simp only [Act.put, List.setIfInBounds_toArray, List.set_cons_zero, List.set_cons_succ])
        refine wpAnyH_ready (rs := [9]) (by kernel_rfl) (by simp) ?_
        refine AllReadyH.cons (by simp only [List.getElem?_toArray, List.getElem?_cons_zero, List.getElem?_cons_succ]; rfl) (fun K hK => ?_) AllReadyH.nil
        obtain ⟨w3, hV9, hth9, h9, hB9⟩ := put_mid (Z := w) hm 9 (MRul.cs ⟨H, L, twoT⟩) (by show 9 + 9 ≤ 27; decide) (by show 0 < 27; decide) hB (by omega)
        replace h9 : BlkL gr (c27 ⟨L, H, otherT⟩ ⟨H, L, twoT⟩ ⟨H, L, twoT⟩) w3 := h9
        have hs9 : w2.heap.size ≤ w3.heap.size := by rw [← hV9]; exact (Below.cells (Nat.zero_le _) _ _ (Below.refl 0 _)).size
        have h8 : BlkL w.heap.size (lab4 H) w3 := ⟨hp.1.same (by rw [← hV9]; exact heap_setCells_other (by omega) _ _ _), Nat.lt_of_lt_of_le hp.2 hs9⟩
        have h7 : BlkL (w.heap.size + 1) (lab4 L) w3 := ⟨hq.1.same (by rw [← hV9]; exact heap_setCells_other (by omega) _ _ _), Nat.lt_of_lt_of_le hq.2 hs9⟩
        refine step_store_part rfl _ _ rfl gr 9 rfl (MRul.cs ⟨H, L, twoT⟩) rfl hth9 hsz9 (mr_one _) hV9 ?_
        (try simp only [Act.put, List.setIfInBounds_toArray, List.set_cons_zero, List.set_cons_succ])
        refine hK.out _ _ (trivial) ?_
        clear hHeld hK
        intro hHeld
        replace hm := h9
        replace hp := h8
        replace hq := h7
        replace hB := hB9
        clear hV9 hth9 h9 h8 h7 hB9 hs9
        (try simp only [Act.put, List.setIfInBounds_toArray, List.set_cons_zero, List.set_cons_succ])
        refine wpAnyH_take (i := 10) (v := ?_) (by simp only [List.getElem?_toArray, List.getElem?_cons_zero, List.getElem?_cons_succ]; rfl) (by kernel_rfl) (by kernel_rfl) (by kernel_rfl) (by exact fun _ _ _ h => h) (Or.inl ⟨by rfl, ?_⟩) (by assumption) ?_; rotate_left; (focus (intro w hSw; (try dsimp only at hSw); go_simp; try with_reducible rfl)); (try simp only [Act.put, List.setIfInBounds_toArray, List.set_cons_zero, List.set_cons_succ])
        refine wpAnyH_ready (rs := [11]) (by kernel_rfl) (by simp) ?_
        refine AllReadyH.cons (by simp only [List.getElem?_toArray, List.getElem?_cons_zero, List.getElem?_cons_succ]; rfl) (fun K hK => ?_) AllReadyH.nil
        obtain ⟨w4, hV9, hth9, h9, hB9⟩ := put_mid (Z := w) hm 18 (MRul.cs ⟨H, L, oneT⟩) (by show 18 + 9 ≤ 27; decide) (by show 0 < 27; decide) hB (by omega)
        replace h9 : BlkL gr (c27 ⟨L, H, otherT⟩ ⟨H, L, twoT⟩ ⟨H, L, oneT⟩) w4 := h9
        have hs9 : w3.heap.size ≤ w4.heap.size := by rw [← hV9]; exact (Below.cells (Nat.zero_le _) _ _ (Below.refl 0 _)).size
        have h8 : BlkL w.heap.size (lab4 H) w4 := ⟨hp.1.same (by rw [← hV9]; exact heap_setCells_other (by omega) _ _ _), Nat.lt_of_lt_of_le hp.2 hs9⟩
        have h7 : BlkL (w.heap.size + 1) (lab4 L) w4 := ⟨hq.1.same (by rw [← hV9]; exact heap_setCells_other (by omega) _ _ _), Nat.lt_of_lt_of_le hq.2 hs9⟩
        refine step_store_part rfl _ _ rfl gr 18 rfl (MRul.cs ⟨H, L, oneT⟩) rfl hth9 hsz9 (mr_one _) hV9 ?_
        (try simp only [Act.put, List.setIfInBounds_toArray, List.set_cons_zero, List.set_cons_succ])
        refine hK.out _ _ (trivial) ?_
        clear hHeld hK
        intro hHeld
        replace hm := h9
        replace hp := h8
        replace hq := h7
        replace hB := hB9
        clear hV9 hth9 h9 h8 h7 hB9 hs9
        (try simp only [Act.put, List.setIfInBounds_toArray, List.set_cons_zero, List.set_cons_succ])
        refine wpAnyH_done (by kernel_rfl) ?_ _
        clear hHeld
        go_wp2_with fail
        go_meet
        exact ⟨rfl, hm, hp, hq, hB⟩
      refine AllReadyH.cons (by simp only [List.getElem?_toArray, List.getElem?_cons_zero, List.getElem?_cons_succ]; rfl) (fun K hK => ?_) AllReadyH.nil
      have hc : CellsAt w0 ⟨gr, 9, none⟩ (MRul.cs ⟨H, L, oneT⟩) := c27_at9 hm
      refine step_load_atM rfl _ rfl ⟨gr, 9, none⟩ rfl (MRul.cs ⟨H, L, oneT⟩) hc hundR rfl hsz9 ?_
      (try simp only [Act.put, List.setIfInBounds_toArray, List.set_cons_zero, List.set_cons_succ])
      refine hK.out _ _ (trivial) ?_
      clear hHeld hK
      intro hHeld
      clear hc
      obtain ⟨w1, hw⟩ : ∃ X, w0 = X := ⟨_, rfl⟩
      rw [hw] at hm hp hq hB ⊢
      clear hw
      (try simp only [Act.put, List.setIfInBounds_toArray, List.set_cons_zero, List.set_cons_succ])
      refine wpAnyH_ready (rs := [4]) (by kernel_rfl) (by simp) ?_
      refine AllReadyH.cons (by simp only [List.getElem?_toArray, List.getElem?_cons_zero, List.getElem?_cons_succ]; rfl) (fun K hK => ?_) AllReadyH.nil
      have hc : CellsAt w1 ⟨gr, 18, none⟩ (MRul.cs ⟨H, L, twoT⟩) := c27_at18 hm
      refine step_load_atM rfl _ rfl ⟨gr, 18, none⟩ rfl (MRul.cs ⟨H, L, twoT⟩) hc hundR rfl hsz9 ?_
      (try simp only [Act.put, List.setIfInBounds_toArray, List.set_cons_zero, List.set_cons_succ])
      refine hK.out _ _ (trivial) ?_
      clear hHeld hK
      intro hHeld
      clear hc
      obtain ⟨w2, hw⟩ : ∃ X, w1 = X := ⟨_, rfl⟩
      rw [hw] at hm hp hq hB ⊢
      clear hw
      (try simp only [Act.put, List.setIfInBounds_toArray, List.set_cons_zero, List.set_cons_succ])
      refine wpAnyH_take (i := 8) (v := ?_) (by simp only [List.getElem?_toArray, List.getElem?_cons_zero, List.getElem?_cons_succ]; rfl) (by kernel_rfl) (by kernel_rfl) (by kernel_rfl) (by exact fun _ _ _ h => h) (Or.inl ⟨by rfl, ?_⟩) (by assumption) ?_; rotate_left; (focus (intro w hSw; (try dsimp only at hSw); go_simp; try with_reducible rfl)); (try simp only [Act.put, List.setIfInBounds_toArray, List.set_cons_zero, List.set_cons_succ])
      refine wpAnyH_ready (rs := [9]) (by kernel_rfl) (by simp) ?_
      refine AllReadyH.cons (by simp only [List.getElem?_toArray, List.getElem?_cons_zero, List.getElem?_cons_succ]; rfl) (fun K hK => ?_) AllReadyH.nil
      obtain ⟨w3, hV9, hth9, h9, hB9⟩ := put_mid (Z := w) hm 9 (MRul.cs ⟨H, L, twoT⟩) (by show 9 + 9 ≤ 27; decide) (by show 0 < 27; decide) hB (by omega)
      replace h9 : BlkL gr (c27 ⟨L, H, otherT⟩ ⟨H, L, twoT⟩ ⟨H, L, twoT⟩) w3 := h9
      have hs9 : w2.heap.size ≤ w3.heap.size := by rw [← hV9]; exact (Below.cells (Nat.zero_le _) _ _ (Below.refl 0 _)).size
      have h8 : BlkL w.heap.size (lab4 H) w3 := ⟨hp.1.same (by rw [← hV9]; exact heap_setCells_other (by omega) _ _ _), Nat.lt_of_lt_of_le hp.2 hs9⟩
      have h7 : BlkL (w.heap.size + 1) (lab4 L) w3 := ⟨hq.1.same (by rw [← hV9]; exact heap_setCells_other (by omega) _ _ _), Nat.lt_of_lt_of_le hq.2 hs9⟩
      refine step_store_part rfl _ _ rfl gr 9 rfl (MRul.cs ⟨H, L, twoT⟩) rfl hth9 hsz9 (mr_one _) hV9 ?_
      (try simp only [Act.put, List.setIfInBounds_toArray, List.set_cons_zero, List.set_cons_succ])
      refine hK.out _ _ (trivial) ?_
      clear hHeld hK
      intro hHeld
      replace hm := h9
      replace hp := h8
      replace hq := h7
      replace hB := hB9
      clear hV9 hth9 h9 h8 h7 hB9 hs9
      (try simp only [Act.put, List.setIfInBounds_toArray, List.set_cons_zero, List.set_cons_succ])
      refine wpAnyH_take (i := 10) (v := ?_) (by simp only [List.getElem?_toArray, List.getElem?_cons_zero, List.getElem?_cons_succ]; rfl) (by kernel_rfl) (by kernel_rfl) (by kernel_rfl) (by exact fun _ _ _ h => h) (Or.inl ⟨by rfl, ?_⟩) (by assumption) ?_; rotate_left; (focus (intro w hSw; (try dsimp only at hSw); go_simp; try with_reducible rfl)); (try simp only [Act.put, List.setIfInBounds_toArray, List.set_cons_zero, List.set_cons_succ])
      refine wpAnyH_ready (rs := [11]) (by kernel_rfl) (by simp) ?_
      refine AllReadyH.cons (by simp only [List.getElem?_toArray, List.getElem?_cons_zero, List.getElem?_cons_succ]; rfl) (fun K hK => ?_) AllReadyH.nil
      obtain ⟨w4, hV9, hth9, h9, hB9⟩ := put_mid (Z := w) hm 18 (MRul.cs ⟨H, L, oneT⟩) (by show 18 + 9 ≤ 27; decide) (by show 0 < 27; decide) hB (by omega)
      replace h9 : BlkL gr (c27 ⟨L, H, otherT⟩ ⟨H, L, twoT⟩ ⟨H, L, oneT⟩) w4 := h9
      have hs9 : w3.heap.size ≤ w4.heap.size := by rw [← hV9]; exact (Below.cells (Nat.zero_le _) _ _ (Below.refl 0 _)).size
      have h8 : BlkL w.heap.size (lab4 H) w4 := ⟨hp.1.same (by rw [← hV9]; exact heap_setCells_other (by omega) _ _ _), Nat.lt_of_lt_of_le hp.2 hs9⟩
      have h7 : BlkL (w.heap.size + 1) (lab4 L) w4 := ⟨hq.1.same (by rw [← hV9]; exact heap_setCells_other (by omega) _ _ _), Nat.lt_of_lt_of_le hq.2 hs9⟩
      refine step_store_part rfl _ _ rfl gr 18 rfl (MRul.cs ⟨H, L, oneT⟩) rfl hth9 hsz9 (mr_one _) hV9 ?_
      (try simp only [Act.put, List.setIfInBounds_toArray, List.set_cons_zero, List.set_cons_succ])
      refine hK.out _ _ (trivial) ?_
      clear hHeld hK
      intro hHeld
      replace hm := h9
      replace hp := h8
      replace hq := h7
      replace hB := hB9
      clear hV9 hth9 h9 h8 h7 hB9 hs9
      (try simp only [Act.put, List.setIfInBounds_toArray, List.set_cons_zero, List.set_cons_succ])
      refine wpAnyH_done (by kernel_rfl) ?_ _
      clear hHeld
      go_wp2_with fail
      go_meet
      exact ⟨rfl, hm, hp, hq, hB⟩
  case rest =>
  obtain ⟨rfl, hm5, hp5, hq5, hB5⟩ := hcut
  obtain ⟨Z, hZ⟩ : ∃ Z, wc = Z := ⟨_, rfl⟩
  rw [hZ] at hm5 hp5 hq5 hB5 ⊢
  clear hZ hm4 hp4 hq4 hb4
  obtain ⟨A, hA⟩ : ∃ A, cond first twoT oneT = A := ⟨_, rfl⟩
  obtain ⟨B, hBt⟩ : ∃ B, cond first oneT twoT = B := ⟨_, rfl⟩
  rw [hA, hBt] at hm5
  replace hA : Aside (cond first twoT oneT = A) := hA
  clear hBt
  have kw3 : ∀ W, Calls Try.prog 11 #[.int .i64 text, .int .i64 3] W fun e w' => e = .returned (.int .i64 (text % 3)) ∧ Below W.heap.size W w' := fun W => (w18_any text 3 (by decide) (by decide) W).mono (by rintro e w' ⟨rfl, rfl⟩; exact ⟨rfl, Below.refl _ _⟩)
  obtain ⟨q, hqt, hq0, hq2⟩ : ∃ q : Int, text % 3 = q ∧ 0 ≤ q ∧ q ≤ 2 := ⟨_, rfl, by omega, by omega⟩
  simp only [hqt] at kw3
  clear hqt
  go_upto_region 9 with fail
  have hS : Below Z.heap.size Z Z.drew := (Below.refl _ _).drew
  go_cut [10] from 46 to 53 (fun s10 wd => ∃ gm, s10 = .pointer (some ⟨gm, 0, none⟩) ∧ BlkL gm (Msg.cs ⟨⟨#[97]⟩, H, ⟨#[98]⟩, L, txt q⟩) wd ∧ Z.heap.size ≤ gm ∧ Below Z.heap.size Z wd)
  · rcases (by omega : q = 0 ∨ q = 1 ∨ q = 2) with rfl | rfl | rfl
    · skip
      refine wp_region_held_drew (S := (fun W => Below Z.heap.size Z W)) (by kernel_rfl) (by exact hS) ?_
      intro hHeld
      generalize Z.drew = w0 at *
      refine wpAnyH_take (i := 0) (v := _) (by simp only [List.getElem?_toArray, List.getElem?_cons_zero, List.getElem?_cons_succ]; rfl) (by kernel_rfl) (by kernel_rfl) (by kernel_rfl) (by exact fun _ _ _ h => h) (yields_row (by rfl) _ rfl w.heap.size rfl (lab4 H) (fun _ q => BlkL.range (stab_blk _ _ _ _ hp5 q)) hundL rfl (hszL H)) (by assumption) ?_; (try simp only [Act.put, List.setIfInBounds_toArray, List.set_cons_zero, List.set_cons_succ])
      refine wpAnyH_take (i := 1) (v := _) (by simp only [List.getElem?_toArray, List.getElem?_cons_zero, List.getElem?_cons_succ]; rfl) (by kernel_rfl) (by kernel_rfl) (by kernel_rfl) (by exact fun _ _ _ h => h) (yields_row (by rfl) _ rfl (w.heap.size + 1) rfl (lab4 L) (fun _ q => BlkL.range (stab_blk _ _ _ _ hq5 q)) hundL rfl (hszL L)) (by assumption) ?_; (try simp only [Act.put, List.setIfInBounds_toArray, List.set_cons_zero, List.set_cons_succ])
      refine wpAnyH_take (i := 3) (v := ?_) (by simp only [List.getElem?_toArray, List.getElem?_cons_zero, List.getElem?_cons_succ]; rfl) (by kernel_rfl) (by kernel_rfl) (by kernel_rfl) (by exact fun _ _ _ h => h) (Or.inl ⟨by rfl, ?_⟩) (by assumption) ?_; rotate_left; (focus (intro w hSw; (try dsimp only at hSw); go_simp; try with_reducible rfl)); (try simp only [Act.put, List.setIfInBounds_toArray, List.set_cons_zero, List.set_cons_succ])
      refine wpAnyH_ready (rs := [2, 4, 8]) (by kernel_rfl) (by simp) ?_
      refine AllReadyH.cons (by simp only [List.getElem?_toArray, List.getElem?_cons_zero, List.getElem?_cons_succ]; rfl) (fun K hK => ?_) ?_
      · go_simp
        have hb := alloc_below w0 (.cells #[.string ⟨#[111, 110, 101]⟩, .string ⟨#[116, 119, 111]⟩, .string ⟨#[116, 104, 114, 101, 101]⟩] 9)
        refine hK.out _ _ (Below.then hS hb) ?_
        clear hHeld hK
        intro hHeld
        have hg : BlkL w0.heap.size [.string ⟨#[111, 110, 101]⟩, .string ⟨#[116, 119, 111]⟩, .string ⟨#[116, 104, 114, 101, 101]⟩] (w0.alloc (.cells #[.string ⟨#[111, 110, 101]⟩, .string ⟨#[116, 119, 111]⟩, .string ⟨#[116, 104, 114, 101, 101]⟩] 9)) := blkl_alloc w0 #[.string ⟨#[111, 110, 101]⟩, .string ⟨#[116, 119, 111]⟩, .string ⟨#[116, 104, 114, 101, 101]⟩] 9
        replace hS := Below.then hS hb
        clear hb
        generalize w0.alloc (.cells #[.string ⟨#[111, 110, 101]⟩, .string ⟨#[116, 119, 111]⟩, .string ⟨#[116, 104, 114, 101, 101]⟩] 9) = w1 at *
        generalize w0.heap.size = gs at *
        (try simp only [Act.put, List.setIfInBounds_toArray, List.set_cons_zero, List.set_cons_succ])
        refine wpAnyH_ready (rs := [4, 8]) (by kernel_rfl) (by simp) ?_
        refine AllReadyH.cons (by simp only [List.getElem?_toArray, List.getElem?_cons_zero, List.getElem?_cons_succ]; rfl) (fun K hK => ?_) ?_
        · go_simp
          refine (kw3 w1).mono ?_
          rintro e w2 ⟨rfl, hb⟩
          replace hS := Below.then hS hb
          replace hg := stab_blk _ _ _ _ hg hb
          clear hb
          refine hK.out _ _ (hS) ?_
          clear hHeld hK
          intro hHeld
          (try simp only [Act.put, List.setIfInBounds_toArray, List.set_cons_zero, List.set_cons_succ])
          refine wpAnyH_take (i := 5) (v := ?_) (by simp only [List.getElem?_toArray, List.getElem?_cons_zero, List.getElem?_cons_succ]; rfl) (by kernel_rfl) (by kernel_rfl) (by kernel_rfl) (by exact fun _ _ _ h => h) (Or.inl ⟨by rfl, ?_⟩) (by assumption) ?_; rotate_left; (focus (intro w hSw; (try dsimp only at hSw); go_simp; try with_reducible rfl)); (try simp only [Act.put, List.setIfInBounds_toArray, List.set_cons_zero, List.set_cons_succ])
          refine wpAnyH_ready (rs := [6, 8]) (by kernel_rfl) (by simp) ?_
          refine AllReadyH.cons (by simp only [List.getElem?_toArray, List.getElem?_cons_zero, List.getElem?_cons_succ]; rfl) (fun K hK => ?_) ?_
          · skip
            refine step_oneM rfl _ rfl ⟨gs, 0, none⟩ rfl (.string ⟨#[111, 110, 101]⟩) (hg.1 0 _ rfl).1 strM_load ?_
            (try simp only [Act.put, List.setIfInBounds_toArray, List.set_cons_zero, List.set_cons_succ])
            refine hK.out _ _ (hS) ?_
            clear hHeld hK
            intro hHeld
            obtain ⟨w3, hw⟩ : ∃ X, w2 = X := ⟨_, rfl⟩
            rw [hw] at hS hg ⊢
            clear hw
            (try simp only [Act.put, List.setIfInBounds_toArray, List.set_cons_zero, List.set_cons_succ])
            refine wpAnyH_take (i := 7) (v := ?_) (by simp only [List.getElem?_toArray, List.getElem?_cons_zero, List.getElem?_cons_succ]; rfl) (by kernel_rfl) (by kernel_rfl) (by kernel_rfl) (by exact fun _ _ _ h => h) (Or.inl ⟨by rfl, ?_⟩) (by assumption) ?_; rotate_left; (focus (intro w hSw; (try dsimp only at hSw); go_simp; try with_reducible rfl)); (try simp only [Act.put, List.setIfInBounds_toArray, List.set_cons_zero, List.set_cons_succ])
            refine wpAnyH_ready (rs := [8]) (by kernel_rfl) (by simp) ?_
            refine AllReadyH.cons (by simp only [List.getElem?_toArray, List.getElem?_cons_zero, List.getElem?_cons_succ]; rfl) (fun K hK => ?_) AllReadyH.nil
            have hb := alloc_below w3 (.cells zM11 26)
            have hz : BlkL w3.heap.size zeroM.cs (w3.alloc (.cells zM11 26)) := blkl_alloc w3 zM11 26
            have hgm : Z.heap.size ≤ w3.heap.size := hS.size
            refine step_allocM (z := zM11) rfl rfl (fun _ => rfl) ?_
            (try simp only [Act.put, List.setIfInBounds_toArray, List.set_cons_zero, List.set_cons_succ])
            refine hK.out _ _ (Below.then hS hb) ?_
            clear hHeld hK
            intro hHeld
            replace hg := stab_blk _ _ _ _ hg hb
            replace hS := Below.then hS hb
            clear hb
            generalize w3.alloc (.cells zM11 26) = w4 at *
            generalize w3.heap.size = gm at *
            (try simp only [Act.put, List.setIfInBounds_toArray, List.set_cons_zero, List.set_cons_succ])
            refine wpAnyH_ready (rs := [9]) (by kernel_rfl) (by simp) ?_
            refine AllReadyH.cons (by simp only [List.getElem?_toArray, List.getElem?_cons_zero, List.getElem?_cons_succ]; rfl) (fun K hK => ?_) AllReadyH.nil
            obtain ⟨V9, hV9, hth9, hz9, hk9⟩ := mput_any hz (ds := (Msg.cs ⟨⟨#[97]⟩, H, ⟨#[98]⟩, L, txt 0⟩)) rfl (by show 0 < 11; decide)
            have hS9 := hk9 _ _ hgm hS
            refine step_store_rowM rfl _ _ rfl gm rfl (Msg.cs ⟨⟨#[97]⟩, H, ⟨#[98]⟩, L, txt 0⟩) rfl hth9 hszM (ms_one _) hV9 ?_
            (try simp only [Act.put, List.setIfInBounds_toArray, List.set_cons_zero, List.set_cons_succ])
            refine hK.out _ _ (hS9) ?_
            clear hHeld hK
            intro hHeld
            replace hz := hz9
            replace hS := hS9
            clear hth9 hV9 hz9 hk9 hS9
            (try simp only [Act.put, List.setIfInBounds_toArray, List.set_cons_zero, List.set_cons_succ])
            refine wpAnyH_done (by kernel_rfl) ?_ _
            clear hHeld
            go_wp2_with fail
            go_meet
            exact ⟨gm, rfl, hz, hgm, hS⟩
          refine AllReadyH.cons (by simp only [List.getElem?_toArray, List.getElem?_cons_zero, List.getElem?_cons_succ]; rfl) (fun K hK => ?_) AllReadyH.nil
          have hb := alloc_below w2 (.cells zM11 26)
          have hz : BlkL w2.heap.size zeroM.cs (w2.alloc (.cells zM11 26)) := blkl_alloc w2 zM11 26
          have hgm : Z.heap.size ≤ w2.heap.size := hS.size
          refine step_allocM (z := zM11) rfl rfl (fun _ => rfl) ?_
          (try simp only [Act.put, List.setIfInBounds_toArray, List.set_cons_zero, List.set_cons_succ])
          refine hK.out _ _ (Below.then hS hb) ?_
          clear hHeld hK
          intro hHeld
          replace hg := stab_blk _ _ _ _ hg hb
          replace hS := Below.then hS hb
          clear hb
          generalize w2.alloc (.cells zM11 26) = w3 at *
          generalize w2.heap.size = gm at *
          (try simp only [Act.put, List.setIfInBounds_toArray, List.set_cons_zero, List.set_cons_succ])
          refine wpAnyH_ready (rs := [6]) (by kernel_rfl) (by simp) ?_
          refine AllReadyH.cons (by simp only [List.getElem?_toArray, List.getElem?_cons_zero, List.getElem?_cons_succ]; rfl) (fun K hK => ?_) AllReadyH.nil
          refine step_oneM rfl _ rfl ⟨gs, 0, none⟩ rfl (.string ⟨#[111, 110, 101]⟩) (hg.1 0 _ rfl).1 strM_load ?_
          (try simp only [Act.put, List.setIfInBounds_toArray, List.set_cons_zero, List.set_cons_succ])
          refine hK.out _ _ (hS) ?_
          clear hHeld hK
          intro hHeld
          obtain ⟨w4, hw⟩ : ∃ X, w3 = X := ⟨_, rfl⟩
          rw [hw] at hS hg hz ⊢
          clear hw
          (try simp only [Act.put, List.setIfInBounds_toArray, List.set_cons_zero, List.set_cons_succ])
          refine wpAnyH_take (i := 7) (v := ?_) (by simp only [List.getElem?_toArray, List.getElem?_cons_zero, List.getElem?_cons_succ]; rfl) (by kernel_rfl) (by kernel_rfl) (by kernel_rfl) (by exact fun _ _ _ h => h) (Or.inl ⟨by rfl, ?_⟩) (by assumption) ?_; rotate_left; (focus (intro w hSw; (try dsimp only at hSw); go_simp; try with_reducible rfl)); (try simp only [Act.put, List.setIfInBounds_toArray, List.set_cons_zero, List.set_cons_succ])
          refine wpAnyH_ready (rs := [9]) (by kernel_rfl) (by simp) ?_
          refine AllReadyH.cons (by simp only [List.getElem?_toArray, List.getElem?_cons_zero, List.getElem?_cons_succ]; rfl) (fun K hK => ?_) AllReadyH.nil
          obtain ⟨V9, hV9, hth9, hz9, hk9⟩ := mput_any hz (ds := (Msg.cs ⟨⟨#[97]⟩, H, ⟨#[98]⟩, L, txt 0⟩)) rfl (by show 0 < 11; decide)
          have hS9 := hk9 _ _ hgm hS
          refine step_store_rowM rfl _ _ rfl gm rfl (Msg.cs ⟨⟨#[97]⟩, H, ⟨#[98]⟩, L, txt 0⟩) rfl hth9 hszM (ms_one _) hV9 ?_
          (try simp only [Act.put, List.setIfInBounds_toArray, List.set_cons_zero, List.set_cons_succ])
          refine hK.out _ _ (hS9) ?_
          clear hHeld hK
          intro hHeld
          replace hz := hz9
          replace hS := hS9
          clear hth9 hV9 hz9 hk9 hS9
          (try simp only [Act.put, List.setIfInBounds_toArray, List.set_cons_zero, List.set_cons_succ])
          refine wpAnyH_done (by kernel_rfl) ?_ _
          clear hHeld
          go_wp2_with fail
          go_meet
          exact ⟨gm, rfl, hz, hgm, hS⟩
        refine AllReadyH.cons (by simp only [List.getElem?_toArray, List.getElem?_cons_zero, List.getElem?_cons_succ]; rfl) (fun K hK => ?_) AllReadyH.nil
        have hb := alloc_below w1 (.cells zM11 26)
        have hz : BlkL w1.heap.size zeroM.cs (w1.alloc (.cells zM11 26)) := blkl_alloc w1 zM11 26
        have hgm : Z.heap.size ≤ w1.heap.size := hS.size
        refine step_allocM (z := zM11) rfl rfl (fun _ => rfl) ?_
        (try simp only [Act.put, List.setIfInBounds_toArray, List.set_cons_zero, List.set_cons_succ])
        refine hK.out _ _ (Below.then hS hb) ?_
        clear hHeld hK
        intro hHeld
        replace hg := stab_blk _ _ _ _ hg hb
        replace hS := Below.then hS hb
        clear hb
        generalize w1.alloc (.cells zM11 26) = w2 at *
        generalize w1.heap.size = gm at *
        (try simp only [Act.put, List.setIfInBounds_toArray, List.set_cons_zero, List.set_cons_succ])
        refine wpAnyH_ready (rs := [4]) (by kernel_rfl) (by simp) ?_
        refine AllReadyH.cons (by simp only [List.getElem?_toArray, List.getElem?_cons_zero, List.getElem?_cons_succ]; rfl) (fun K hK => ?_) AllReadyH.nil
        go_simp
        refine (kw3 w2).mono ?_
        rintro e w3 ⟨rfl, hb⟩
        replace hS := Below.then hS hb
        replace hg := stab_blk _ _ _ _ hg hb
        replace hz := stab_blk _ _ _ _ hz hb
        clear hb
        refine hK.out _ _ (hS) ?_
        clear hHeld hK
        intro hHeld
        (try simp only [Act.put, List.setIfInBounds_toArray, List.set_cons_zero, List.set_cons_succ])
        refine wpAnyH_take (i := 5) (v := ?_) (by simp only [List.getElem?_toArray, List.getElem?_cons_zero, List.getElem?_cons_succ]; rfl) (by kernel_rfl) (by kernel_rfl) (by kernel_rfl) (by exact fun _ _ _ h => h) (Or.inl ⟨by rfl, ?_⟩) (by assumption) ?_; rotate_left; (focus (intro w hSw; (try dsimp only at hSw); go_simp; try with_reducible rfl)); (try simp only [Act.put, List.setIfInBounds_toArray, List.set_cons_zero, List.set_cons_succ])
        refine wpAnyH_ready (rs := [6]) (by kernel_rfl) (by simp) ?_
        refine AllReadyH.cons (by simp only [List.getElem?_toArray, List.getElem?_cons_zero, List.getElem?_cons_succ]; rfl) (fun K hK => ?_) AllReadyH.nil
        refine step_oneM rfl _ rfl ⟨gs, 0, none⟩ rfl (.string ⟨#[111, 110, 101]⟩) (hg.1 0 _ rfl).1 strM_load ?_
        (try simp only [Act.put, List.setIfInBounds_toArray, List.set_cons_zero, List.set_cons_succ])
        refine hK.out _ _ (hS) ?_
        clear hHeld hK
        intro hHeld
        obtain ⟨w4, hw⟩ : ∃ X, w3 = X := ⟨_, rfl⟩
        rw [hw] at hS hg hz ⊢
        clear hw
        (try simp only [Act.put, List.setIfInBounds_toArray, List.set_cons_zero, List.set_cons_succ])
        refine wpAnyH_take (i := 7) (v := ?_) (by simp only [List.getElem?_toArray, List.getElem?_cons_zero, List.getElem?_cons_succ]; rfl) (by kernel_rfl) (by kernel_rfl) (by kernel_rfl) (by exact fun _ _ _ h => h) (Or.inl ⟨by rfl, ?_⟩) (by assumption) ?_; rotate_left; (focus (intro w hSw; (try dsimp only at hSw); go_simp; try with_reducible rfl)); (try simp only [Act.put, List.setIfInBounds_toArray, List.set_cons_zero, List.set_cons_succ])
        refine wpAnyH_ready (rs := [9]) (by kernel_rfl) (by simp) ?_
        refine AllReadyH.cons (by simp only [List.getElem?_toArray, List.getElem?_cons_zero, List.getElem?_cons_succ]; rfl) (fun K hK => ?_) AllReadyH.nil
        obtain ⟨V9, hV9, hth9, hz9, hk9⟩ := mput_any hz (ds := (Msg.cs ⟨⟨#[97]⟩, H, ⟨#[98]⟩, L, txt 0⟩)) rfl (by show 0 < 11; decide)
        have hS9 := hk9 _ _ hgm hS
        refine step_store_rowM rfl _ _ rfl gm rfl (Msg.cs ⟨⟨#[97]⟩, H, ⟨#[98]⟩, L, txt 0⟩) rfl hth9 hszM (ms_one _) hV9 ?_
        (try simp only [Act.put, List.setIfInBounds_toArray, List.set_cons_zero, List.set_cons_succ])
        refine hK.out _ _ (hS9) ?_
        clear hHeld hK
        intro hHeld
        replace hz := hz9
        replace hS := hS9
        clear hth9 hV9 hz9 hk9 hS9
        (try simp only [Act.put, List.setIfInBounds_toArray, List.set_cons_zero, List.set_cons_succ])
        refine wpAnyH_done (by kernel_rfl) ?_ _
        clear hHeld
        go_wp2_with fail
        go_meet
        exact ⟨gm, rfl, hz, hgm, hS⟩
      refine AllReadyH.cons (by simp only [List.getElem?_toArray, List.getElem?_cons_zero, List.getElem?_cons_succ]; rfl) (fun K hK => ?_) ?_
      · go_simp
        refine (kw3 w0).mono ?_
        rintro e w1 ⟨rfl, hb⟩
        replace hS := Below.then hS hb
        clear hb
        refine hK.out _ _ (hS) ?_
        clear hHeld hK
        intro hHeld
        (try simp only [Act.put, List.setIfInBounds_toArray, List.set_cons_zero, List.set_cons_succ])
        refine wpAnyH_ready (rs := [2, 8]) (by kernel_rfl) (by simp) ?_
        refine AllReadyH.cons (by simp only [List.getElem?_toArray, List.getElem?_cons_zero, List.getElem?_cons_succ]; rfl) (fun K hK => ?_) ?_
        · go_simp
          have hb := alloc_below w1 (.cells #[.string ⟨#[111, 110, 101]⟩, .string ⟨#[116, 119, 111]⟩, .string ⟨#[116, 104, 114, 101, 101]⟩] 9)
          refine hK.out _ _ (Below.then hS hb) ?_
          clear hHeld hK
          intro hHeld
          have hg : BlkL w1.heap.size [.string ⟨#[111, 110, 101]⟩, .string ⟨#[116, 119, 111]⟩, .string ⟨#[116, 104, 114, 101, 101]⟩] (w1.alloc (.cells #[.string ⟨#[111, 110, 101]⟩, .string ⟨#[116, 119, 111]⟩, .string ⟨#[116, 104, 114, 101, 101]⟩] 9)) := blkl_alloc w1 #[.string ⟨#[111, 110, 101]⟩, .string ⟨#[116, 119, 111]⟩, .string ⟨#[116, 104, 114, 101, 101]⟩] 9
          replace hS := Below.then hS hb
          clear hb
          generalize w1.alloc (.cells #[.string ⟨#[111, 110, 101]⟩, .string ⟨#[116, 119, 111]⟩, .string ⟨#[116, 104, 114, 101, 101]⟩] 9) = w2 at *
          generalize w1.heap.size = gs at *
          (try simp only [Act.put, List.setIfInBounds_toArray, List.set_cons_zero, List.set_cons_succ])
          refine wpAnyH_take (i := 5) (v := ?_) (by simp only [List.getElem?_toArray, List.getElem?_cons_zero, List.getElem?_cons_succ]; rfl) (by kernel_rfl) (by kernel_rfl) (by kernel_rfl) (by exact fun _ _ _ h => h) (Or.inl ⟨by rfl, ?_⟩) (by assumption) ?_; rotate_left; (focus (intro w hSw; (try dsimp only at hSw); go_simp; try with_reducible rfl)); (try simp only [Act.put, List.setIfInBounds_toArray, List.set_cons_zero, List.set_cons_succ])
          refine wpAnyH_ready (rs := [6, 8]) (by kernel_rfl) (by simp) ?_
          refine AllReadyH.cons (by simp only [List.getElem?_toArray, List.getElem?_cons_zero, List.getElem?_cons_succ]; rfl) (fun K hK => ?_) ?_
          · skip
            refine step_oneM rfl _ rfl ⟨gs, 0, none⟩ rfl (.string ⟨#[111, 110, 101]⟩) (hg.1 0 _ rfl).1 strM_load ?_
            (try simp only [Act.put, List.setIfInBounds_toArray, List.set_cons_zero, List.set_cons_succ])
            refine hK.out _ _ (hS) ?_
            clear hHeld hK
            intro hHeld
            obtain ⟨w3, hw⟩ : ∃ X, w2 = X := ⟨_, rfl⟩
            rw [hw] at hS hg ⊢
            clear hw
            (try simp only [Act.put, List.setIfInBounds_toArray, List.set_cons_zero, List.set_cons_succ])
            refine wpAnyH_take (i := 7) (v := ?_) (by simp only [List.getElem?_toArray, List.getElem?_cons_zero, List.getElem?_cons_succ]; rfl) (by kernel_rfl) (by kernel_rfl) (by kernel_rfl) (by exact fun _ _ _ h => h) (Or.inl ⟨by rfl, ?_⟩) (by assumption) ?_; rotate_left; (focus (intro w hSw; (try dsimp only at hSw); go_simp; try with_reducible rfl)); (try simp only [Act.put, List.setIfInBounds_toArray, List.set_cons_zero, List.set_cons_succ])
            refine wpAnyH_ready (rs := [8]) (by kernel_rfl) (by simp) ?_
            refine AllReadyH.cons (by simp only [List.getElem?_toArray, List.getElem?_cons_zero, List.getElem?_cons_succ]; rfl) (fun K hK => ?_) AllReadyH.nil
            have hb := alloc_below w3 (.cells zM11 26)
            have hz : BlkL w3.heap.size zeroM.cs (w3.alloc (.cells zM11 26)) := blkl_alloc w3 zM11 26
            have hgm : Z.heap.size ≤ w3.heap.size := hS.size
            refine step_allocM (z := zM11) rfl rfl (fun _ => rfl) ?_
            (try simp only [Act.put, List.setIfInBounds_toArray, List.set_cons_zero, List.set_cons_succ])
            refine hK.out _ _ (Below.then hS hb) ?_
            clear hHeld hK
            intro hHeld
            replace hg := stab_blk _ _ _ _ hg hb
            replace hS := Below.then hS hb
            clear hb
            generalize w3.alloc (.cells zM11 26) = w4 at *
            generalize w3.heap.size = gm at *
            (try simp only [Act.put, List.setIfInBounds_toArray, List.set_cons_zero, List.set_cons_succ])
            refine wpAnyH_ready (rs := [9]) (by kernel_rfl) (by simp) ?_
            refine AllReadyH.cons (by simp only [List.getElem?_toArray, List.getElem?_cons_zero, List.getElem?_cons_succ]; rfl) (fun K hK => ?_) AllReadyH.nil
            obtain ⟨V9, hV9, hth9, hz9, hk9⟩ := mput_any hz (ds := (Msg.cs ⟨⟨#[97]⟩, H, ⟨#[98]⟩, L, txt 0⟩)) rfl (by show 0 < 11; decide)
            have hS9 := hk9 _ _ hgm hS
            refine step_store_rowM rfl _ _ rfl gm rfl (Msg.cs ⟨⟨#[97]⟩, H, ⟨#[98]⟩, L, txt 0⟩) rfl hth9 hszM (ms_one _) hV9 ?_
            (try simp only [Act.put, List.setIfInBounds_toArray, List.set_cons_zero, List.set_cons_succ])
            refine hK.out _ _ (hS9) ?_
            clear hHeld hK
            intro hHeld
            replace hz := hz9
            replace hS := hS9
            clear hth9 hV9 hz9 hk9 hS9
            (try simp only [Act.put, List.setIfInBounds_toArray, List.set_cons_zero, List.set_cons_succ])
            refine wpAnyH_done (by kernel_rfl) ?_ _
            clear hHeld
            go_wp2_with fail
            go_meet
            exact ⟨gm, rfl, hz, hgm, hS⟩
          refine AllReadyH.cons (by simp only [List.getElem?_toArray, List.getElem?_cons_zero, List.getElem?_cons_succ]; rfl) (fun K hK => ?_) AllReadyH.nil
          have hb := alloc_below w2 (.cells zM11 26)
          have hz : BlkL w2.heap.size zeroM.cs (w2.alloc (.cells zM11 26)) := blkl_alloc w2 zM11 26
          have hgm : Z.heap.size ≤ w2.heap.size := hS.size
          refine step_allocM (z := zM11) rfl rfl (fun _ => rfl) ?_
          (try simp only [Act.put, List.setIfInBounds_toArray, List.set_cons_zero, List.set_cons_succ])
          refine hK.out _ _ (Below.then hS hb) ?_
          clear hHeld hK
          intro hHeld
          replace hg := stab_blk _ _ _ _ hg hb
          replace hS := Below.then hS hb
          clear hb
          generalize w2.alloc (.cells zM11 26) = w3 at *
          generalize w2.heap.size = gm at *
          (try simp only [Act.put, List.setIfInBounds_toArray, List.set_cons_zero, List.set_cons_succ])
          refine wpAnyH_ready (rs := [6]) (by kernel_rfl) (by simp) ?_
          refine AllReadyH.cons (by simp only [List.getElem?_toArray, List.getElem?_cons_zero, List.getElem?_cons_succ]; rfl) (fun K hK => ?_) AllReadyH.nil
          refine step_oneM rfl _ rfl ⟨gs, 0, none⟩ rfl (.string ⟨#[111, 110, 101]⟩) (hg.1 0 _ rfl).1 strM_load ?_
          (try simp only [Act.put, List.setIfInBounds_toArray, List.set_cons_zero, List.set_cons_succ])
          refine hK.out _ _ (hS) ?_
          clear hHeld hK
          intro hHeld
          obtain ⟨w4, hw⟩ : ∃ X, w3 = X := ⟨_, rfl⟩
          rw [hw] at hS hg hz ⊢
          clear hw
          (try simp only [Act.put, List.setIfInBounds_toArray, List.set_cons_zero, List.set_cons_succ])
          refine wpAnyH_take (i := 7) (v := ?_) (by simp only [List.getElem?_toArray, List.getElem?_cons_zero, List.getElem?_cons_succ]; rfl) (by kernel_rfl) (by kernel_rfl) (by kernel_rfl) (by exact fun _ _ _ h => h) (Or.inl ⟨by rfl, ?_⟩) (by assumption) ?_; rotate_left; (focus (intro w hSw; (try dsimp only at hSw); go_simp; try with_reducible rfl)); (try simp only [Act.put, List.setIfInBounds_toArray, List.set_cons_zero, List.set_cons_succ])
          refine wpAnyH_ready (rs := [9]) (by kernel_rfl) (by simp) ?_
          refine AllReadyH.cons (by simp only [List.getElem?_toArray, List.getElem?_cons_zero, List.getElem?_cons_succ]; rfl) (fun K hK => ?_) AllReadyH.nil
          obtain ⟨V9, hV9, hth9, hz9, hk9⟩ := mput_any hz (ds := (Msg.cs ⟨⟨#[97]⟩, H, ⟨#[98]⟩, L, txt 0⟩)) rfl (by show 0 < 11; decide)
          have hS9 := hk9 _ _ hgm hS
          refine step_store_rowM rfl _ _ rfl gm rfl (Msg.cs ⟨⟨#[97]⟩, H, ⟨#[98]⟩, L, txt 0⟩) rfl hth9 hszM (ms_one _) hV9 ?_
          (try simp only [Act.put, List.setIfInBounds_toArray, List.set_cons_zero, List.set_cons_succ])
          refine hK.out _ _ (hS9) ?_
          clear hHeld hK
          intro hHeld
          replace hz := hz9
          replace hS := hS9
          clear hth9 hV9 hz9 hk9 hS9
          (try simp only [Act.put, List.setIfInBounds_toArray, List.set_cons_zero, List.set_cons_succ])
          refine wpAnyH_done (by kernel_rfl) ?_ _
          clear hHeld
          go_wp2_with fail
          go_meet
          exact ⟨gm, rfl, hz, hgm, hS⟩
        refine AllReadyH.cons (by simp only [List.getElem?_toArray, List.getElem?_cons_zero, List.getElem?_cons_succ]; rfl) (fun K hK => ?_) AllReadyH.nil
        have hb := alloc_below w1 (.cells zM11 26)
        have hz : BlkL w1.heap.size zeroM.cs (w1.alloc (.cells zM11 26)) := blkl_alloc w1 zM11 26
        have hgm : Z.heap.size ≤ w1.heap.size := hS.size
        refine step_allocM (z := zM11) rfl rfl (fun _ => rfl) ?_
        (try simp only [Act.put, List.setIfInBounds_toArray, List.set_cons_zero, List.set_cons_succ])
        refine hK.out _ _ (Below.then hS hb) ?_
        clear hHeld hK
        intro hHeld
        replace hS := Below.then hS hb
        clear hb
        generalize w1.alloc (.cells zM11 26) = w2 at *
        generalize w1.heap.size = gm at *
        (try simp only [Act.put, List.setIfInBounds_toArray, List.set_cons_zero, List.set_cons_succ])
        refine wpAnyH_ready (rs := [2]) (by kernel_rfl) (by simp) ?_
        refine AllReadyH.cons (by simp only [List.getElem?_toArray, List.getElem?_cons_zero, List.getElem?_cons_succ]; rfl) (fun K hK => ?_) AllReadyH.nil
        go_simp
        have hb := alloc_below w2 (.cells #[.string ⟨#[111, 110, 101]⟩, .string ⟨#[116, 119, 111]⟩, .string ⟨#[116, 104, 114, 101, 101]⟩] 9)
        refine hK.out _ _ (Below.then hS hb) ?_
        clear hHeld hK
        intro hHeld
        have hg : BlkL w2.heap.size [.string ⟨#[111, 110, 101]⟩, .string ⟨#[116, 119, 111]⟩, .string ⟨#[116, 104, 114, 101, 101]⟩] (w2.alloc (.cells #[.string ⟨#[111, 110, 101]⟩, .string ⟨#[116, 119, 111]⟩, .string ⟨#[116, 104, 114, 101, 101]⟩] 9)) := blkl_alloc w2 #[.string ⟨#[111, 110, 101]⟩, .string ⟨#[116, 119, 111]⟩, .string ⟨#[116, 104, 114, 101, 101]⟩] 9
        replace hz := stab_blk _ _ _ _ hz hb
        replace hS := Below.then hS hb
        clear hb
        generalize w2.alloc (.cells #[.string ⟨#[111, 110, 101]⟩, .string ⟨#[116, 119, 111]⟩, .string ⟨#[116, 104, 114, 101, 101]⟩] 9) = w3 at *
        generalize w2.heap.size = gs at *
        (try simp only [Act.put, List.setIfInBounds_toArray, List.set_cons_zero, List.set_cons_succ])
        refine wpAnyH_take (i := 5) (v := ?_) (by simp only [List.getElem?_toArray, List.getElem?_cons_zero, List.getElem?_cons_succ]; rfl) (by kernel_rfl) (by kernel_rfl) (by kernel_rfl) (by exact fun _ _ _ h => h) (Or.inl ⟨by rfl, ?_⟩) (by assumption) ?_; rotate_left; (focus (intro w hSw; (try dsimp only at hSw); go_simp; try with_reducible rfl)); (try simp only [Act.put, List.setIfInBounds_toArray, List.set_cons_zero, List.set_cons_succ])
        refine wpAnyH_ready (rs := [6]) (by kernel_rfl) (by simp) ?_
        refine AllReadyH.cons (by simp only [List.getElem?_toArray, List.getElem?_cons_zero, List.getElem?_cons_succ]; rfl) (fun K hK => ?_) AllReadyH.nil
        refine step_oneM rfl _ rfl ⟨gs, 0, none⟩ rfl (.string ⟨#[111, 110, 101]⟩) (hg.1 0 _ rfl).1 strM_load ?_
        (try simp only [Act.put, List.setIfInBounds_toArray, List.set_cons_zero, List.set_cons_succ])
        refine hK.out _ _ (hS) ?_
        clear hHeld hK
        intro hHeld
        obtain ⟨w4, hw⟩ : ∃ X, w3 = X := ⟨_, rfl⟩
        rw [hw] at hS hg hz ⊢
        clear hw
        (try simp only [Act.put, List.setIfInBounds_toArray, List.set_cons_zero, List.set_cons_succ])
        refine wpAnyH_take (i := 7) (v := ?_) (by simp only [List.getElem?_toArray, List.getElem?_cons_zero, List.getElem?_cons_succ]; rfl) (by kernel_rfl) (by kernel_rfl) (by kernel_rfl) (by exact fun _ _ _ h => h) (Or.inl ⟨by rfl, ?_⟩) (by assumption) ?_; rotate_left; (focus (intro w hSw; (try dsimp only at hSw); go_simp; try with_reducible rfl)); (try simp only [Act.put, List.setIfInBounds_toArray, List.set_cons_zero, List.set_cons_succ])
        refine wpAnyH_ready (rs := [9]) (by kernel_rfl) (by simp) ?_
        refine AllReadyH.cons (by simp only [List.getElem?_toArray, List.getElem?_cons_zero, List.getElem?_cons_succ]; rfl) (fun K hK => ?_) AllReadyH.nil
        obtain ⟨V9, hV9, hth9, hz9, hk9⟩ := mput_any hz (ds := (Msg.cs ⟨⟨#[97]⟩, H, ⟨#[98]⟩, L, txt 0⟩)) rfl (by show 0 < 11; decide)
        have hS9 := hk9 _ _ hgm hS
        refine step_store_rowM rfl _ _ rfl gm rfl (Msg.cs ⟨⟨#[97]⟩, H, ⟨#[98]⟩, L, txt 0⟩) rfl hth9 hszM (ms_one _) hV9 ?_
        (try simp only [Act.put, List.setIfInBounds_toArray, List.set_cons_zero, List.set_cons_succ])
        refine hK.out _ _ (hS9) ?_
        clear hHeld hK
        intro hHeld
        replace hz := hz9
        replace hS := hS9
        clear hth9 hV9 hz9 hk9 hS9
        (try simp only [Act.put, List.setIfInBounds_toArray, List.set_cons_zero, List.set_cons_succ])
        refine wpAnyH_done (by kernel_rfl) ?_ _
        clear hHeld
        go_wp2_with fail
        go_meet
        exact ⟨gm, rfl, hz, hgm, hS⟩
      refine AllReadyH.cons (by simp only [List.getElem?_toArray, List.getElem?_cons_zero, List.getElem?_cons_succ]; rfl) (fun K hK => ?_) AllReadyH.nil
      have hb := alloc_below w0 (.cells zM11 26)
      have hz : BlkL w0.heap.size zeroM.cs (w0.alloc (.cells zM11 26)) := blkl_alloc w0 zM11 26
      have hgm : Z.heap.size ≤ w0.heap.size := hS.size
      refine step_allocM (z := zM11) rfl rfl (fun _ => rfl) ?_
      (try simp only [Act.put, List.setIfInBounds_toArray, List.set_cons_zero, List.set_cons_succ])
      refine hK.out _ _ (Below.then hS hb) ?_
      clear hHeld hK
      intro hHeld
      replace hS := Below.then hS hb
      clear hb
      generalize w0.alloc (.cells zM11 26) = w1 at *
      generalize w0.heap.size = gm at *
      (try simp only [Act.put, List.setIfInBounds_toArray, List.set_cons_zero, List.set_cons_succ])
      refine wpAnyH_ready (rs := [2, 4]) (by kernel_rfl) (by simp) ?_
      refine AllReadyH.cons (by simp only [List.getElem?_toArray, List.getElem?_cons_zero, List.getElem?_cons_succ]; rfl) (fun K hK => ?_) ?_
      · go_simp
        have hb := alloc_below w1 (.cells #[.string ⟨#[111, 110, 101]⟩, .string ⟨#[116, 119, 111]⟩, .string ⟨#[116, 104, 114, 101, 101]⟩] 9)
        refine hK.out _ _ (Below.then hS hb) ?_
        clear hHeld hK
        intro hHeld
        have hg : BlkL w1.heap.size [.string ⟨#[111, 110, 101]⟩, .string ⟨#[116, 119, 111]⟩, .string ⟨#[116, 104, 114, 101, 101]⟩] (w1.alloc (.cells #[.string ⟨#[111, 110, 101]⟩, .string ⟨#[116, 119, 111]⟩, .string ⟨#[116, 104, 114, 101, 101]⟩] 9)) := blkl_alloc w1 #[.string ⟨#[111, 110, 101]⟩, .string ⟨#[116, 119, 111]⟩, .string ⟨#[116, 104, 114, 101, 101]⟩] 9
        replace hz := stab_blk _ _ _ _ hz hb
        replace hS := Below.then hS hb
        clear hb
        generalize w1.alloc (.cells #[.string ⟨#[111, 110, 101]⟩, .string ⟨#[116, 119, 111]⟩, .string ⟨#[116, 104, 114, 101, 101]⟩] 9) = w2 at *
        generalize w1.heap.size = gs at *
        (try simp only [Act.put, List.setIfInBounds_toArray, List.set_cons_zero, List.set_cons_succ])
        refine wpAnyH_ready (rs := [4]) (by kernel_rfl) (by simp) ?_
        refine AllReadyH.cons (by simp only [List.getElem?_toArray, List.getElem?_cons_zero, List.getElem?_cons_succ]; rfl) (fun K hK => ?_) AllReadyH.nil
        go_simp
        refine (kw3 w2).mono ?_
        rintro e w3 ⟨rfl, hb⟩
        replace hS := Below.then hS hb
        replace hg := stab_blk _ _ _ _ hg hb
        replace hz := stab_blk _ _ _ _ hz hb
        clear hb
        refine hK.out _ _ (hS) ?_
        clear hHeld hK
        intro hHeld
        (try simp only [Act.put, List.setIfInBounds_toArray, List.set_cons_zero, List.set_cons_succ])
        refine wpAnyH_take (i := 5) (v := ?_) (by simp only [List.getElem?_toArray, List.getElem?_cons_zero, List.getElem?_cons_succ]; rfl) (by kernel_rfl) (by kernel_rfl) (by kernel_rfl) (by exact fun _ _ _ h => h) (Or.inl ⟨by rfl, ?_⟩) (by assumption) ?_; rotate_left; (focus (intro w hSw; (try dsimp only at hSw); go_simp; try with_reducible rfl)); (try simp only [Act.put, List.setIfInBounds_toArray, List.set_cons_zero, List.set_cons_succ])
        refine wpAnyH_ready (rs := [6]) (by kernel_rfl) (by simp) ?_
        refine AllReadyH.cons (by simp only [List.getElem?_toArray, List.getElem?_cons_zero, List.getElem?_cons_succ]; rfl) (fun K hK => ?_) AllReadyH.nil
        refine step_oneM rfl _ rfl ⟨gs, 0, none⟩ rfl (.string ⟨#[111, 110, 101]⟩) (hg.1 0 _ rfl).1 strM_load ?_
        (try simp only [Act.put, List.setIfInBounds_toArray, List.set_cons_zero, List.set_cons_succ])
        refine hK.out _ _ (hS) ?_
        clear hHeld hK
        intro hHeld
        obtain ⟨w4, hw⟩ : ∃ X, w3 = X := ⟨_, rfl⟩
        rw [hw] at hS hg hz ⊢
        clear hw
        (try simp only [Act.put, List.setIfInBounds_toArray, List.set_cons_zero, List.set_cons_succ])
        refine wpAnyH_take (i := 7) (v := ?_) (by simp only [List.getElem?_toArray, List.getElem?_cons_zero, List.getElem?_cons_succ]; rfl) (by kernel_rfl) (by kernel_rfl) (by kernel_rfl) (by exact fun _ _ _ h => h) (Or.inl ⟨by rfl, ?_⟩) (by assumption) ?_; rotate_left; (focus (intro w hSw; (try dsimp only at hSw); go_simp; try with_reducible rfl)); (try simp only [Act.put, List.setIfInBounds_toArray, List.set_cons_zero, List.set_cons_succ])
        refine wpAnyH_ready (rs := [9]) (by kernel_rfl) (by simp) ?_
        refine AllReadyH.cons (by simp only [List.getElem?_toArray, List.getElem?_cons_zero, List.getElem?_cons_succ]; rfl) (fun K hK => ?_) AllReadyH.nil
        obtain ⟨V9, hV9, hth9, hz9, hk9⟩ := mput_any hz (ds := (Msg.cs ⟨⟨#[97]⟩, H, ⟨#[98]⟩, L, txt 0⟩)) rfl (by show 0 < 11; decide)
        have hS9 := hk9 _ _ hgm hS
        refine step_store_rowM rfl _ _ rfl gm rfl (Msg.cs ⟨⟨#[97]⟩, H, ⟨#[98]⟩, L, txt 0⟩) rfl hth9 hszM (ms_one _) hV9 ?_
        (try simp only [Act.put, List.setIfInBounds_toArray, List.set_cons_zero, List.set_cons_succ])
        refine hK.out _ _ (hS9) ?_
        clear hHeld hK
        intro hHeld
        replace hz := hz9
        replace hS := hS9
        clear hth9 hV9 hz9 hk9 hS9
        (try simp only [Act.put, List.setIfInBounds_toArray, List.set_cons_zero, List.set_cons_succ])
        refine wpAnyH_done (by kernel_rfl) ?_ _
        clear hHeld
        go_wp2_with fail
        go_meet
        exact ⟨gm, rfl, hz, hgm, hS⟩
      refine AllReadyH.cons (by simp only [List.getElem?_toArray, List.getElem?_cons_zero, List.getElem?_cons_succ]; rfl) (fun K hK => ?_) AllReadyH.nil
      go_simp
      refine (kw3 w1).mono ?_
      rintro e w2 ⟨rfl, hb⟩
      replace hS := Below.then hS hb
      replace hz := stab_blk _ _ _ _ hz hb
      clear hb
      refine hK.out _ _ (hS) ?_
      clear hHeld hK
      intro hHeld
      (try simp only [Act.put, List.setIfInBounds_toArray, List.set_cons_zero, List.set_cons_succ])
      refine wpAnyH_ready (rs := [2]) (by kernel_rfl) (by simp) ?_
      refine AllReadyH.cons (by simp only [List.getElem?_toArray, List.getElem?_cons_zero, List.getElem?_cons_succ]; rfl) (fun K hK => ?_) AllReadyH.nil
      go_simp
      have hb := alloc_below w2 (.cells #[.string ⟨#[111, 110, 101]⟩, .string ⟨#[116, 119, 111]⟩, .string ⟨#[116, 104, 114, 101, 101]⟩] 9)
      refine hK.out _ _ (Below.then hS hb) ?_
      clear hHeld hK
      intro hHeld
      have hg : BlkL w2.heap.size [.string ⟨#[111, 110, 101]⟩, .string ⟨#[116, 119, 111]⟩, .string ⟨#[116, 104, 114, 101, 101]⟩] (w2.alloc (.cells #[.string ⟨#[111, 110, 101]⟩, .string ⟨#[116, 119, 111]⟩, .string ⟨#[116, 104, 114, 101, 101]⟩] 9)) := blkl_alloc w2 #[.string ⟨#[111, 110, 101]⟩, .string ⟨#[116, 119, 111]⟩, .string ⟨#[116, 104, 114, 101, 101]⟩] 9
      replace hz := stab_blk _ _ _ _ hz hb
      replace hS := Below.then hS hb
      clear hb
      generalize w2.alloc (.cells #[.string ⟨#[111, 110, 101]⟩, .string ⟨#[116, 119, 111]⟩, .string ⟨#[116, 104, 114, 101, 101]⟩] 9) = w3 at *
      generalize w2.heap.size = gs at *
      (try simp only [Act.put, List.setIfInBounds_toArray, List.set_cons_zero, List.set_cons_succ])
      refine wpAnyH_take (i := 5) (v := ?_) (by simp only [List.getElem?_toArray, List.getElem?_cons_zero, List.getElem?_cons_succ]; rfl) (by kernel_rfl) (by kernel_rfl) (by kernel_rfl) (by exact fun _ _ _ h => h) (Or.inl ⟨by rfl, ?_⟩) (by assumption) ?_; rotate_left; (focus (intro w hSw; (try dsimp only at hSw); go_simp; try with_reducible rfl)); (try simp only [Act.put, List.setIfInBounds_toArray, List.set_cons_zero, List.set_cons_succ])
      refine wpAnyH_ready (rs := [6]) (by kernel_rfl) (by simp) ?_
      refine AllReadyH.cons (by simp only [List.getElem?_toArray, List.getElem?_cons_zero, List.getElem?_cons_succ]; rfl) (fun K hK => ?_) AllReadyH.nil
      refine step_oneM rfl _ rfl ⟨gs, 0, none⟩ rfl (.string ⟨#[111, 110, 101]⟩) (hg.1 0 _ rfl).1 strM_load ?_
      (try simp only [Act.put, List.setIfInBounds_toArray, List.set_cons_zero, List.set_cons_succ])
      refine hK.out _ _ (hS) ?_
      clear hHeld hK
      intro hHeld
      obtain ⟨w4, hw⟩ : ∃ X, w3 = X := ⟨_, rfl⟩
      rw [hw] at hS hg hz ⊢
      clear hw
      (try simp only [Act.put, List.setIfInBounds_toArray, List.set_cons_zero, List.set_cons_succ])
      refine wpAnyH_take (i := 7) (v := ?_) (by simp only [List.getElem?_toArray, List.getElem?_cons_zero, List.getElem?_cons_succ]; rfl) (by kernel_rfl) (by kernel_rfl) (by kernel_rfl) (by exact fun _ _ _ h => h) (Or.inl ⟨by rfl, ?_⟩) (by assumption) ?_; rotate_left; (focus (intro w hSw; (try dsimp only at hSw); go_simp; try with_reducible rfl)); (try simp only [Act.put, List.setIfInBounds_toArray, List.set_cons_zero, List.set_cons_succ])
      refine wpAnyH_ready (rs := [9]) (by kernel_rfl) (by simp) ?_
      refine AllReadyH.cons (by simp only [List.getElem?_toArray, List.getElem?_cons_zero, List.getElem?_cons_succ]; rfl) (fun K hK => ?_) AllReadyH.nil
      obtain ⟨V9, hV9, hth9, hz9, hk9⟩ := mput_any hz (ds := (Msg.cs ⟨⟨#[97]⟩, H, ⟨#[98]⟩, L, txt 0⟩)) rfl (by show 0 < 11; decide)
      have hS9 := hk9 _ _ hgm hS
      refine step_store_rowM rfl _ _ rfl gm rfl (Msg.cs ⟨⟨#[97]⟩, H, ⟨#[98]⟩, L, txt 0⟩) rfl hth9 hszM (ms_one _) hV9 ?_
      (try simp only [Act.put, List.setIfInBounds_toArray, List.set_cons_zero, List.set_cons_succ])
      refine hK.out _ _ (hS9) ?_
      clear hHeld hK
      intro hHeld
      replace hz := hz9
      replace hS := hS9
      clear hth9 hV9 hz9 hk9 hS9
      (try simp only [Act.put, List.setIfInBounds_toArray, List.set_cons_zero, List.set_cons_succ])
      refine wpAnyH_done (by kernel_rfl) ?_ _
      clear hHeld
      go_wp2_with fail
      go_meet
      exact ⟨gm, rfl, hz, hgm, hS⟩
    · skip
      refine wp_region_held_drew (S := (fun W => Below Z.heap.size Z W)) (by kernel_rfl) (by exact hS) ?_
      intro hHeld
      generalize Z.drew = w0 at *
      refine wpAnyH_take (i := 0) (v := _) (by simp only [List.getElem?_toArray, List.getElem?_cons_zero, List.getElem?_cons_succ]; rfl) (by kernel_rfl) (by kernel_rfl) (by kernel_rfl) (by exact fun _ _ _ h => h) (yields_row (by rfl) _ rfl w.heap.size rfl (lab4 H) (fun _ q => BlkL.range (stab_blk _ _ _ _ hp5 q)) hundL rfl (hszL H)) (by assumption) ?_; (try simp only [Act.put, List.setIfInBounds_toArray, List.set_cons_zero, List.set_cons_succ])
      refine wpAnyH_take (i := 1) (v := _) (by simp only [List.getElem?_toArray, List.getElem?_cons_zero, List.getElem?_cons_succ]; rfl) (by kernel_rfl) (by kernel_rfl) (by kernel_rfl) (by exact fun _ _ _ h => h) (yields_row (by rfl) _ rfl (w.heap.size + 1) rfl (lab4 L) (fun _ q => BlkL.range (stab_blk _ _ _ _ hq5 q)) hundL rfl (hszL L)) (by assumption) ?_; (try simp only [Act.put, List.setIfInBounds_toArray, List.set_cons_zero, List.set_cons_succ])
      refine wpAnyH_take (i := 3) (v := ?_) (by simp only [List.getElem?_toArray, List.getElem?_cons_zero, List.getElem?_cons_succ]; rfl) (by kernel_rfl) (by kernel_rfl) (by kernel_rfl) (by exact fun _ _ _ h => h) (Or.inl ⟨by rfl, ?_⟩) (by assumption) ?_; rotate_left; (focus (intro w hSw; (try dsimp only at hSw); go_simp; try with_reducible rfl)); (try simp only [Act.put, List.setIfInBounds_toArray, List.set_cons_zero, List.set_cons_succ])
      refine wpAnyH_ready (rs := [2, 4, 8]) (by kernel_rfl) (by simp) ?_
      refine AllReadyH.cons (by simp only [List.getElem?_toArray, List.getElem?_cons_zero, List.getElem?_cons_succ]; rfl) (fun K hK => ?_) ?_
      · go_simp
        have hb := alloc_below w0 (.cells #[.string ⟨#[111, 110, 101]⟩, .string ⟨#[116, 119, 111]⟩, .string ⟨#[116, 104, 114, 101, 101]⟩] 9)
        refine hK.out _ _ (Below.then hS hb) ?_
        clear hHeld hK
        intro hHeld
        have hg : BlkL w0.heap.size [.string ⟨#[111, 110, 101]⟩, .string ⟨#[116, 119, 111]⟩, .string ⟨#[116, 104, 114, 101, 101]⟩] (w0.alloc (.cells #[.string ⟨#[111, 110, 101]⟩, .string ⟨#[116, 119, 111]⟩, .string ⟨#[116, 104, 114, 101, 101]⟩] 9)) := blkl_alloc w0 #[.string ⟨#[111, 110, 101]⟩, .string ⟨#[116, 119, 111]⟩, .string ⟨#[116, 104, 114, 101, 101]⟩] 9
        replace hS := Below.then hS hb
        clear hb
        generalize w0.alloc (.cells #[.string ⟨#[111, 110, 101]⟩, .string ⟨#[116, 119, 111]⟩, .string ⟨#[116, 104, 114, 101, 101]⟩] 9) = w1 at *
        generalize w0.heap.size = gs at *
        (try simp only [Act.put, List.setIfInBounds_toArray, List.set_cons_zero, List.set_cons_succ])
        refine wpAnyH_ready (rs := [4, 8]) (by kernel_rfl) (by simp) ?_
        refine AllReadyH.cons (by simp only [List.getElem?_toArray, List.getElem?_cons_zero, List.getElem?_cons_succ]; rfl) (fun K hK => ?_) ?_
        · go_simp
          refine (kw3 w1).mono ?_
          rintro e w2 ⟨rfl, hb⟩
          replace hS := Below.then hS hb
          replace hg := stab_blk _ _ _ _ hg hb
          clear hb
          refine hK.out _ _ (hS) ?_
          clear hHeld hK
          intro hHeld
          (try simp only [Act.put, List.setIfInBounds_toArray, List.set_cons_zero, List.set_cons_succ])
          refine wpAnyH_take (i := 5) (v := ?_) (by simp only [List.getElem?_toArray, List.getElem?_cons_zero, List.getElem?_cons_succ]; rfl) (by kernel_rfl) (by kernel_rfl) (by kernel_rfl) (by exact fun _ _ _ h => h) (Or.inl ⟨by rfl, ?_⟩) (by assumption) ?_; rotate_left; (focus (intro w hSw; (try dsimp only at hSw); go_simp; try with_reducible rfl)); (try simp only [Act.put, List.setIfInBounds_toArray, List.set_cons_zero, List.set_cons_succ])
          refine wpAnyH_ready (rs := [6, 8]) (by kernel_rfl) (by simp) ?_
          refine AllReadyH.cons (by simp only [List.getElem?_toArray, List.getElem?_cons_zero, List.getElem?_cons_succ]; rfl) (fun K hK => ?_) ?_
          · skip
            refine step_oneM rfl _ rfl ⟨gs, 1, none⟩ rfl (.string ⟨#[116, 119, 111]⟩) (hg.1 1 _ rfl).1 strM_load ?_
            (try simp only [Act.put, List.setIfInBounds_toArray, List.set_cons_zero, List.set_cons_succ])
            refine hK.out _ _ (hS) ?_
            clear hHeld hK
            intro hHeld
            obtain ⟨w3, hw⟩ : ∃ X, w2 = X := ⟨_, rfl⟩
            rw [hw] at hS hg ⊢
            clear hw
            (try simp only [Act.put, List.setIfInBounds_toArray, List.set_cons_zero, List.set_cons_succ])
            refine wpAnyH_take (i := 7) (v := ?_) (by simp only [List.getElem?_toArray, List.getElem?_cons_zero, List.getElem?_cons_succ]; rfl) (by kernel_rfl) (by kernel_rfl) (by kernel_rfl) (by exact fun _ _ _ h => h) (Or.inl ⟨by rfl, ?_⟩) (by assumption) ?_; rotate_left; (focus (intro w hSw; (try dsimp only at hSw); go_simp; try with_reducible rfl)); (try simp only [Act.put, List.setIfInBounds_toArray, List.set_cons_zero, List.set_cons_succ])
            refine wpAnyH_ready (rs := [8]) (by kernel_rfl) (by simp) ?_
            refine AllReadyH.cons (by simp only [List.getElem?_toArray, List.getElem?_cons_zero, List.getElem?_cons_succ]; rfl) (fun K hK => ?_) AllReadyH.nil
            have hb := alloc_below w3 (.cells zM11 26)
            have hz : BlkL w3.heap.size zeroM.cs (w3.alloc (.cells zM11 26)) := blkl_alloc w3 zM11 26
            have hgm : Z.heap.size ≤ w3.heap.size := hS.size
            refine step_allocM (z := zM11) rfl rfl (fun _ => rfl) ?_
            (try simp only [Act.put, List.setIfInBounds_toArray, List.set_cons_zero, List.set_cons_succ])
            refine hK.out _ _ (Below.then hS hb) ?_
            clear hHeld hK
            intro hHeld
            replace hg := stab_blk _ _ _ _ hg hb
            replace hS := Below.then hS hb
            clear hb
            generalize w3.alloc (.cells zM11 26) = w4 at *
            generalize w3.heap.size = gm at *
            (try simp only [Act.put, List.setIfInBounds_toArray, List.set_cons_zero, List.set_cons_succ])
            refine wpAnyH_ready (rs := [9]) (by kernel_rfl) (by simp) ?_
            refine AllReadyH.cons (by simp only [List.getElem?_toArray, List.getElem?_cons_zero, List.getElem?_cons_succ]; rfl) (fun K hK => ?_) AllReadyH.nil
            obtain ⟨V9, hV9, hth9, hz9, hk9⟩ := mput_any hz (ds := (Msg.cs ⟨⟨#[97]⟩, H, ⟨#[98]⟩, L, txt 1⟩)) rfl (by show 0 < 11; decide)
            have hS9 := hk9 _ _ hgm hS
            refine step_store_rowM rfl _ _ rfl gm rfl (Msg.cs ⟨⟨#[97]⟩, H, ⟨#[98]⟩, L, txt 1⟩) rfl hth9 hszM (ms_one _) hV9 ?_
            (try simp only [Act.put, List.setIfInBounds_toArray, List.set_cons_zero, List.set_cons_succ])
            refine hK.out _ _ (hS9) ?_
            clear hHeld hK
            intro hHeld
            replace hz := hz9
            replace hS := hS9
            clear hth9 hV9 hz9 hk9 hS9
            (try simp only [Act.put, List.setIfInBounds_toArray, List.set_cons_zero, List.set_cons_succ])
            refine wpAnyH_done (by kernel_rfl) ?_ _
            clear hHeld
            go_wp2_with fail
            go_meet
            exact ⟨gm, rfl, hz, hgm, hS⟩
          refine AllReadyH.cons (by simp only [List.getElem?_toArray, List.getElem?_cons_zero, List.getElem?_cons_succ]; rfl) (fun K hK => ?_) AllReadyH.nil
          have hb := alloc_below w2 (.cells zM11 26)
          have hz : BlkL w2.heap.size zeroM.cs (w2.alloc (.cells zM11 26)) := blkl_alloc w2 zM11 26
          have hgm : Z.heap.size ≤ w2.heap.size := hS.size
          refine step_allocM (z := zM11) rfl rfl (fun _ => rfl) ?_
          (try simp only [Act.put, List.setIfInBounds_toArray, List.set_cons_zero, List.set_cons_succ])
          refine hK.out _ _ (Below.then hS hb) ?_
          clear hHeld hK
          intro hHeld
          replace hg := stab_blk _ _ _ _ hg hb
          replace hS := Below.then hS hb
          clear hb
          generalize w2.alloc (.cells zM11 26) = w3 at *
          generalize w2.heap.size = gm at *
          (try simp only [Act.put, List.setIfInBounds_toArray, List.set_cons_zero, List.set_cons_succ])
          refine wpAnyH_ready (rs := [6]) (by kernel_rfl) (by simp) ?_
          refine AllReadyH.cons (by simp only [List.getElem?_toArray, List.getElem?_cons_zero, List.getElem?_cons_succ]; rfl) (fun K hK => ?_) AllReadyH.nil
          refine step_oneM rfl _ rfl ⟨gs, 1, none⟩ rfl (.string ⟨#[116, 119, 111]⟩) (hg.1 1 _ rfl).1 strM_load ?_
          (try simp only [Act.put, List.setIfInBounds_toArray, List.set_cons_zero, List.set_cons_succ])
          refine hK.out _ _ (hS) ?_
          clear hHeld hK
          intro hHeld
          obtain ⟨w4, hw⟩ : ∃ X, w3 = X := ⟨_, rfl⟩
          rw [hw] at hS hg hz ⊢
          clear hw
          (try simp only [Act.put, List.setIfInBounds_toArray, List.set_cons_zero, List.set_cons_succ])
          refine wpAnyH_take (i := 7) (v := ?_) (by simp only [List.getElem?_toArray, List.getElem?_cons_zero, List.getElem?_cons_succ]; rfl) (by kernel_rfl) (by kernel_rfl) (by kernel_rfl) (by exact fun _ _ _ h => h) (Or.inl ⟨by rfl, ?_⟩) (by assumption) ?_; rotate_left; (focus (intro w hSw; (try dsimp only at hSw); go_simp; try with_reducible rfl)); (try simp only [Act.put, List.setIfInBounds_toArray, List.set_cons_zero, List.set_cons_succ])
          refine wpAnyH_ready (rs := [9]) (by kernel_rfl) (by simp) ?_
          refine AllReadyH.cons (by simp only [List.getElem?_toArray, List.getElem?_cons_zero, List.getElem?_cons_succ]; rfl) (fun K hK => ?_) AllReadyH.nil
          obtain ⟨V9, hV9, hth9, hz9, hk9⟩ := mput_any hz (ds := (Msg.cs ⟨⟨#[97]⟩, H, ⟨#[98]⟩, L, txt 1⟩)) rfl (by show 0 < 11; decide)
          have hS9 := hk9 _ _ hgm hS
          refine step_store_rowM rfl _ _ rfl gm rfl (Msg.cs ⟨⟨#[97]⟩, H, ⟨#[98]⟩, L, txt 1⟩) rfl hth9 hszM (ms_one _) hV9 ?_
          (try simp only [Act.put, List.setIfInBounds_toArray, List.set_cons_zero, List.set_cons_succ])
          refine hK.out _ _ (hS9) ?_
          clear hHeld hK
          intro hHeld
          replace hz := hz9
          replace hS := hS9
          clear hth9 hV9 hz9 hk9 hS9
          (try simp only [Act.put, List.setIfInBounds_toArray, List.set_cons_zero, List.set_cons_succ])
          refine wpAnyH_done (by kernel_rfl) ?_ _
          clear hHeld
          go_wp2_with fail
          go_meet
          exact ⟨gm, rfl, hz, hgm, hS⟩
        refine AllReadyH.cons (by simp only [List.getElem?_toArray, List.getElem?_cons_zero, List.getElem?_cons_succ]; rfl) (fun K hK => ?_) AllReadyH.nil
        have hb := alloc_below w1 (.cells zM11 26)
        have hz : BlkL w1.heap.size zeroM.cs (w1.alloc (.cells zM11 26)) := blkl_alloc w1 zM11 26
        have hgm : Z.heap.size ≤ w1.heap.size := hS.size
        refine step_allocM (z := zM11) rfl rfl (fun _ => rfl) ?_
        (try simp only [Act.put, List.setIfInBounds_toArray, List.set_cons_zero, List.set_cons_succ])
        refine hK.out _ _ (Below.then hS hb) ?_
        clear hHeld hK
        intro hHeld
        replace hg := stab_blk _ _ _ _ hg hb
        replace hS := Below.then hS hb
        clear hb
        generalize w1.alloc (.cells zM11 26) = w2 at *
        generalize w1.heap.size = gm at *
        (try simp only [Act.put, List.setIfInBounds_toArray, List.set_cons_zero, List.set_cons_succ])
        refine wpAnyH_ready (rs := [4]) (by kernel_rfl) (by simp) ?_
        refine AllReadyH.cons (by simp only [List.getElem?_toArray, List.getElem?_cons_zero, List.getElem?_cons_succ]; rfl) (fun K hK => ?_) AllReadyH.nil
        go_simp
        refine (kw3 w2).mono ?_
        rintro e w3 ⟨rfl, hb⟩
        replace hS := Below.then hS hb
        replace hg := stab_blk _ _ _ _ hg hb
        replace hz := stab_blk _ _ _ _ hz hb
        clear hb
        refine hK.out _ _ (hS) ?_
        clear hHeld hK
        intro hHeld
        (try simp only [Act.put, List.setIfInBounds_toArray, List.set_cons_zero, List.set_cons_succ])
        refine wpAnyH_take (i := 5) (v := ?_) (by simp only [List.getElem?_toArray, List.getElem?_cons_zero, List.getElem?_cons_succ]; rfl) (by kernel_rfl) (by kernel_rfl) (by kernel_rfl) (by exact fun _ _ _ h => h) (Or.inl ⟨by rfl, ?_⟩) (by assumption) ?_; rotate_left; (focus (intro w hSw; (try dsimp only at hSw); go_simp; try with_reducible rfl)); (try simp only [Act.put, List.setIfInBounds_toArray, List.set_cons_zero, List.set_cons_succ])
        refine wpAnyH_ready (rs := [6]) (by kernel_rfl) (by simp) ?_
        refine AllReadyH.cons (by simp only [List.getElem?_toArray, List.getElem?_cons_zero, List.getElem?_cons_succ]; rfl) (fun K hK => ?_) AllReadyH.nil
        refine step_oneM rfl _ rfl ⟨gs, 1, none⟩ rfl (.string ⟨#[116, 119, 111]⟩) (hg.1 1 _ rfl).1 strM_load ?_
        (try simp only [Act.put, List.setIfInBounds_toArray, List.set_cons_zero, List.set_cons_succ])
        refine hK.out _ _ (hS) ?_
        clear hHeld hK
        intro hHeld
        obtain ⟨w4, hw⟩ : ∃ X, w3 = X := ⟨_, rfl⟩
        rw [hw] at hS hg hz ⊢
        clear hw
        (try simp only [Act.put, List.setIfInBounds_toArray, List.set_cons_zero, List.set_cons_succ])
        refine wpAnyH_take (i := 7) (v := ?_) (by simp only [List.getElem?_toArray, List.getElem?_cons_zero, List.getElem?_cons_succ]; rfl) (by kernel_rfl) (by kernel_rfl) (by kernel_rfl) (by exact fun _ _ _ h => h) (Or.inl ⟨by rfl, ?_⟩) (by assumption) ?_; rotate_left; (focus (intro w hSw; (try dsimp only at hSw); go_simp; try with_reducible rfl)); (try simp only [Act.put, List.setIfInBounds_toArray, List.set_cons_zero, List.set_cons_succ])
        refine wpAnyH_ready (rs := [9]) (by kernel_rfl) (by simp) ?_
        refine AllReadyH.cons (by simp only [List.getElem?_toArray, List.getElem?_cons_zero, List.getElem?_cons_succ]; rfl) (fun K hK => ?_) AllReadyH.nil
        obtain ⟨V9, hV9, hth9, hz9, hk9⟩ := mput_any hz (ds := (Msg.cs ⟨⟨#[97]⟩, H, ⟨#[98]⟩, L, txt 1⟩)) rfl (by show 0 < 11; decide)
        have hS9 := hk9 _ _ hgm hS
        refine step_store_rowM rfl _ _ rfl gm rfl (Msg.cs ⟨⟨#[97]⟩, H, ⟨#[98]⟩, L, txt 1⟩) rfl hth9 hszM (ms_one _) hV9 ?_
        (try simp only [Act.put, List.setIfInBounds_toArray, List.set_cons_zero, List.set_cons_succ])
        refine hK.out _ _ (hS9) ?_
        clear hHeld hK
        intro hHeld
        replace hz := hz9
        replace hS := hS9
        clear hth9 hV9 hz9 hk9 hS9
        (try simp only [Act.put, List.setIfInBounds_toArray, List.set_cons_zero, List.set_cons_succ])
        refine wpAnyH_done (by kernel_rfl) ?_ _
        clear hHeld
        go_wp2_with fail
        go_meet
        exact ⟨gm, rfl, hz, hgm, hS⟩
      refine AllReadyH.cons (by simp only [List.getElem?_toArray, List.getElem?_cons_zero, List.getElem?_cons_succ]; rfl) (fun K hK => ?_) ?_
      · go_simp
        refine (kw3 w0).mono ?_
        rintro e w1 ⟨rfl, hb⟩
        replace hS := Below.then hS hb
        clear hb
        refine hK.out _ _ (hS) ?_
        clear hHeld hK
        intro hHeld
        (try simp only [Act.put, List.setIfInBounds_toArray, List.set_cons_zero, List.set_cons_succ])
        refine wpAnyH_ready (rs := [2, 8]) (by kernel_rfl) (by simp) ?_
        refine AllReadyH.cons (by simp only [List.getElem?_toArray, List.getElem?_cons_zero, List.getElem?_cons_succ]; rfl) (fun K hK => ?_) ?_
        · go_simp
          have hb := alloc_below w1 (.cells #[.string ⟨#[111, 110, 101]⟩, .string ⟨#[116, 119, 111]⟩, .string ⟨#[116, 104, 114, 101, 101]⟩] 9)
          refine hK.out _ _ (Below.then hS hb) ?_
          clear hHeld hK
          intro hHeld
          have hg : BlkL w1.heap.size [.string ⟨#[111, 110, 101]⟩, .string ⟨#[116, 119, 111]⟩, .string ⟨#[116, 104, 114, 101, 101]⟩] (w1.alloc (.cells #[.string ⟨#[111, 110, 101]⟩, .string ⟨#[116, 119, 111]⟩, .string ⟨#[116, 104, 114, 101, 101]⟩] 9)) := blkl_alloc w1 #[.string ⟨#[111, 110, 101]⟩, .string ⟨#[116, 119, 111]⟩, .string ⟨#[116, 104, 114, 101, 101]⟩] 9
          replace hS := Below.then hS hb
          clear hb
          generalize w1.alloc (.cells #[.string ⟨#[111, 110, 101]⟩, .string ⟨#[116, 119, 111]⟩, .string ⟨#[116, 104, 114, 101, 101]⟩] 9) = w2 at *
          generalize w1.heap.size = gs at *
          (try simp only [Act.put, List.setIfInBounds_toArray, List.set_cons_zero, List.set_cons_succ])
          refine wpAnyH_take (i := 5) (v := ?_) (by simp only [List.getElem?_toArray, List.getElem?_cons_zero, List.getElem?_cons_succ]; rfl) (by kernel_rfl) (by kernel_rfl) (by kernel_rfl) (by exact fun _ _ _ h => h) (Or.inl ⟨by rfl, ?_⟩) (by assumption) ?_; rotate_left; (focus (intro w hSw; (try dsimp only at hSw); go_simp; try with_reducible rfl)); (try simp only [Act.put, List.setIfInBounds_toArray, List.set_cons_zero, List.set_cons_succ])
          refine wpAnyH_ready (rs := [6, 8]) (by kernel_rfl) (by simp) ?_
          refine AllReadyH.cons (by simp only [List.getElem?_toArray, List.getElem?_cons_zero, List.getElem?_cons_succ]; rfl) (fun K hK => ?_) ?_
          · skip
            refine step_oneM rfl _ rfl ⟨gs, 1, none⟩ rfl (.string ⟨#[116, 119, 111]⟩) (hg.1 1 _ rfl).1 strM_load ?_
            (try simp only [Act.put, List.setIfInBounds_toArray, List.set_cons_zero, List.set_cons_succ])
            refine hK.out _ _ (hS) ?_
            clear hHeld hK
            intro hHeld
            obtain ⟨w3, hw⟩ : ∃ X, w2 = X := ⟨_, rfl⟩
            rw [hw] at hS hg ⊢
            clear hw
            (try simp only [Act.put, List.setIfInBounds_toArray, List.set_cons_zero, List.set_cons_succ])
            refine wpAnyH_take (i := 7) (v := ?_) (by simp only [List.getElem?_toArray, List.getElem?_cons_zero, List.getElem?_cons_succ]; rfl) (by kernel_rfl) (by kernel_rfl) (by kernel_rfl) (by exact fun _ _ _ h => h) (Or.inl ⟨by rfl, ?_⟩) (by assumption) ?_; rotate_left; (focus (intro w hSw; (try dsimp only at hSw); go_simp; try with_reducible rfl)); (try simp only [Act.put, List.setIfInBounds_toArray, List.set_cons_zero, List.set_cons_succ])
            refine wpAnyH_ready (rs := [8]) (by kernel_rfl) (by simp) ?_
            refine AllReadyH.cons (by simp only [List.getElem?_toArray, List.getElem?_cons_zero, List.getElem?_cons_succ]; rfl) (fun K hK => ?_) AllReadyH.nil
            have hb := alloc_below w3 (.cells zM11 26)
            have hz : BlkL w3.heap.size zeroM.cs (w3.alloc (.cells zM11 26)) := blkl_alloc w3 zM11 26
            have hgm : Z.heap.size ≤ w3.heap.size := hS.size
            refine step_allocM (z := zM11) rfl rfl (fun _ => rfl) ?_
            (try simp only [Act.put, List.setIfInBounds_toArray, List.set_cons_zero, List.set_cons_succ])
            refine hK.out _ _ (Below.then hS hb) ?_
            clear hHeld hK
            intro hHeld
            replace hg := stab_blk _ _ _ _ hg hb
            replace hS := Below.then hS hb
            clear hb
            generalize w3.alloc (.cells zM11 26) = w4 at *
            generalize w3.heap.size = gm at *
            (try simp only [Act.put, List.setIfInBounds_toArray, List.set_cons_zero, List.set_cons_succ])
            refine wpAnyH_ready (rs := [9]) (by kernel_rfl) (by simp) ?_
            refine AllReadyH.cons (by simp only [List.getElem?_toArray, List.getElem?_cons_zero, List.getElem?_cons_succ]; rfl) (fun K hK => ?_) AllReadyH.nil
            obtain ⟨V9, hV9, hth9, hz9, hk9⟩ := mput_any hz (ds := (Msg.cs ⟨⟨#[97]⟩, H, ⟨#[98]⟩, L, txt 1⟩)) rfl (by show 0 < 11; decide)
            have hS9 := hk9 _ _ hgm hS
            refine step_store_rowM rfl _ _ rfl gm rfl (Msg.cs ⟨⟨#[97]⟩, H, ⟨#[98]⟩, L, txt 1⟩) rfl hth9 hszM (ms_one _) hV9 ?_
            (try simp only [Act.put, List.setIfInBounds_toArray, List.set_cons_zero, List.set_cons_succ])
            refine hK.out _ _ (hS9) ?_
            clear hHeld hK
            intro hHeld
            replace hz := hz9
            replace hS := hS9
            clear hth9 hV9 hz9 hk9 hS9
            (try simp only [Act.put, List.setIfInBounds_toArray, List.set_cons_zero, List.set_cons_succ])
            refine wpAnyH_done (by kernel_rfl) ?_ _
            clear hHeld
            go_wp2_with fail
            go_meet
            exact ⟨gm, rfl, hz, hgm, hS⟩
          refine AllReadyH.cons (by simp only [List.getElem?_toArray, List.getElem?_cons_zero, List.getElem?_cons_succ]; rfl) (fun K hK => ?_) AllReadyH.nil
          have hb := alloc_below w2 (.cells zM11 26)
          have hz : BlkL w2.heap.size zeroM.cs (w2.alloc (.cells zM11 26)) := blkl_alloc w2 zM11 26
          have hgm : Z.heap.size ≤ w2.heap.size := hS.size
          refine step_allocM (z := zM11) rfl rfl (fun _ => rfl) ?_
          (try simp only [Act.put, List.setIfInBounds_toArray, List.set_cons_zero, List.set_cons_succ])
          refine hK.out _ _ (Below.then hS hb) ?_
          clear hHeld hK
          intro hHeld
          replace hg := stab_blk _ _ _ _ hg hb
          replace hS := Below.then hS hb
          clear hb
          generalize w2.alloc (.cells zM11 26) = w3 at *
          generalize w2.heap.size = gm at *
          (try simp only [Act.put, List.setIfInBounds_toArray, List.set_cons_zero, List.set_cons_succ])
          refine wpAnyH_ready (rs := [6]) (by kernel_rfl) (by simp) ?_
          refine AllReadyH.cons (by simp only [List.getElem?_toArray, List.getElem?_cons_zero, List.getElem?_cons_succ]; rfl) (fun K hK => ?_) AllReadyH.nil
          refine step_oneM rfl _ rfl ⟨gs, 1, none⟩ rfl (.string ⟨#[116, 119, 111]⟩) (hg.1 1 _ rfl).1 strM_load ?_
          (try simp only [Act.put, List.setIfInBounds_toArray, List.set_cons_zero, List.set_cons_succ])
          refine hK.out _ _ (hS) ?_
          clear hHeld hK
          intro hHeld
          obtain ⟨w4, hw⟩ : ∃ X, w3 = X := ⟨_, rfl⟩
          rw [hw] at hS hg hz ⊢
          clear hw
          (try simp only [Act.put, List.setIfInBounds_toArray, List.set_cons_zero, List.set_cons_succ])
          refine wpAnyH_take (i := 7) (v := ?_) (by simp only [List.getElem?_toArray, List.getElem?_cons_zero, List.getElem?_cons_succ]; rfl) (by kernel_rfl) (by kernel_rfl) (by kernel_rfl) (by exact fun _ _ _ h => h) (Or.inl ⟨by rfl, ?_⟩) (by assumption) ?_; rotate_left; (focus (intro w hSw; (try dsimp only at hSw); go_simp; try with_reducible rfl)); (try simp only [Act.put, List.setIfInBounds_toArray, List.set_cons_zero, List.set_cons_succ])
          refine wpAnyH_ready (rs := [9]) (by kernel_rfl) (by simp) ?_
          refine AllReadyH.cons (by simp only [List.getElem?_toArray, List.getElem?_cons_zero, List.getElem?_cons_succ]; rfl) (fun K hK => ?_) AllReadyH.nil
          obtain ⟨V9, hV9, hth9, hz9, hk9⟩ := mput_any hz (ds := (Msg.cs ⟨⟨#[97]⟩, H, ⟨#[98]⟩, L, txt 1⟩)) rfl (by show 0 < 11; decide)
          have hS9 := hk9 _ _ hgm hS
          refine step_store_rowM rfl _ _ rfl gm rfl (Msg.cs ⟨⟨#[97]⟩, H, ⟨#[98]⟩, L, txt 1⟩) rfl hth9 hszM (ms_one _) hV9 ?_
          (try simp only [Act.put, List.setIfInBounds_toArray, List.set_cons_zero, List.set_cons_succ])
          refine hK.out _ _ (hS9) ?_
          clear hHeld hK
          intro hHeld
          replace hz := hz9
          replace hS := hS9
          clear hth9 hV9 hz9 hk9 hS9
          (try simp only [Act.put, List.setIfInBounds_toArray, List.set_cons_zero, List.set_cons_succ])
          refine wpAnyH_done (by kernel_rfl) ?_ _
          clear hHeld
          go_wp2_with fail
          go_meet
          exact ⟨gm, rfl, hz, hgm, hS⟩
        refine AllReadyH.cons (by simp only [List.getElem?_toArray, List.getElem?_cons_zero, List.getElem?_cons_succ]; rfl) (fun K hK => ?_) AllReadyH.nil
        have hb := alloc_below w1 (.cells zM11 26)
        have hz : BlkL w1.heap.size zeroM.cs (w1.alloc (.cells zM11 26)) := blkl_alloc w1 zM11 26
        have hgm : Z.heap.size ≤ w1.heap.size := hS.size
        refine step_allocM (z := zM11) rfl rfl (fun _ => rfl) ?_
        (try simp only [Act.put, List.setIfInBounds_toArray, List.set_cons_zero, List.set_cons_succ])
        refine hK.out _ _ (Below.then hS hb) ?_
        clear hHeld hK
        intro hHeld
        replace hS := Below.then hS hb
        clear hb
        generalize w1.alloc (.cells zM11 26) = w2 at *
        generalize w1.heap.size = gm at *
        (try simp only [Act.put, List.setIfInBounds_toArray, List.set_cons_zero, List.set_cons_succ])
        refine wpAnyH_ready (rs := [2]) (by kernel_rfl) (by simp) ?_
        refine AllReadyH.cons (by simp only [List.getElem?_toArray, List.getElem?_cons_zero, List.getElem?_cons_succ]; rfl) (fun K hK => ?_) AllReadyH.nil
        go_simp
        have hb := alloc_below w2 (.cells #[.string ⟨#[111, 110, 101]⟩, .string ⟨#[116, 119, 111]⟩, .string ⟨#[116, 104, 114, 101, 101]⟩] 9)
        refine hK.out _ _ (Below.then hS hb) ?_
        clear hHeld hK
        intro hHeld
        have hg : BlkL w2.heap.size [.string ⟨#[111, 110, 101]⟩, .string ⟨#[116, 119, 111]⟩, .string ⟨#[116, 104, 114, 101, 101]⟩] (w2.alloc (.cells #[.string ⟨#[111, 110, 101]⟩, .string ⟨#[116, 119, 111]⟩, .string ⟨#[116, 104, 114, 101, 101]⟩] 9)) := blkl_alloc w2 #[.string ⟨#[111, 110, 101]⟩, .string ⟨#[116, 119, 111]⟩, .string ⟨#[116, 104, 114, 101, 101]⟩] 9
        replace hz := stab_blk _ _ _ _ hz hb
        replace hS := Below.then hS hb
        clear hb
        generalize w2.alloc (.cells #[.string ⟨#[111, 110, 101]⟩, .string ⟨#[116, 119, 111]⟩, .string ⟨#[116, 104, 114, 101, 101]⟩] 9) = w3 at *
        generalize w2.heap.size = gs at *
        (try simp only [Act.put, List.setIfInBounds_toArray, List.set_cons_zero, List.set_cons_succ])
        refine wpAnyH_take (i := 5) (v := ?_) (by simp only [List.getElem?_toArray, List.getElem?_cons_zero, List.getElem?_cons_succ]; rfl) (by kernel_rfl) (by kernel_rfl) (by kernel_rfl) (by exact fun _ _ _ h => h) (Or.inl ⟨by rfl, ?_⟩) (by assumption) ?_; rotate_left; (focus (intro w hSw; (try dsimp only at hSw); go_simp; try with_reducible rfl)); (try simp only [Act.put, List.setIfInBounds_toArray, List.set_cons_zero, List.set_cons_succ])
        refine wpAnyH_ready (rs := [6]) (by kernel_rfl) (by simp) ?_
        refine AllReadyH.cons (by simp only [List.getElem?_toArray, List.getElem?_cons_zero, List.getElem?_cons_succ]; rfl) (fun K hK => ?_) AllReadyH.nil
        refine step_oneM rfl _ rfl ⟨gs, 1, none⟩ rfl (.string ⟨#[116, 119, 111]⟩) (hg.1 1 _ rfl).1 strM_load ?_
        (try simp only [Act.put, List.setIfInBounds_toArray, List.set_cons_zero, List.set_cons_succ])
        refine hK.out _ _ (hS) ?_
        clear hHeld hK
        intro hHeld
        obtain ⟨w4, hw⟩ : ∃ X, w3 = X := ⟨_, rfl⟩
        rw [hw] at hS hg hz ⊢
        clear hw
        (try simp only [Act.put, List.setIfInBounds_toArray, List.set_cons_zero, List.set_cons_succ])
        refine wpAnyH_take (i := 7) (v := ?_) (by simp only [List.getElem?_toArray, List.getElem?_cons_zero, List.getElem?_cons_succ]; rfl) (by kernel_rfl) (by kernel_rfl) (by kernel_rfl) (by exact fun _ _ _ h => h) (Or.inl ⟨by rfl, ?_⟩) (by assumption) ?_; rotate_left; (focus (intro w hSw; (try dsimp only at hSw); go_simp; try with_reducible rfl)); (try simp only [Act.put, List.setIfInBounds_toArray, List.set_cons_zero, List.set_cons_succ])
        refine wpAnyH_ready (rs := [9]) (by kernel_rfl) (by simp) ?_
        refine AllReadyH.cons (by simp only [List.getElem?_toArray, List.getElem?_cons_zero, List.getElem?_cons_succ]; rfl) (fun K hK => ?_) AllReadyH.nil
        obtain ⟨V9, hV9, hth9, hz9, hk9⟩ := mput_any hz (ds := (Msg.cs ⟨⟨#[97]⟩, H, ⟨#[98]⟩, L, txt 1⟩)) rfl (by show 0 < 11; decide)
        have hS9 := hk9 _ _ hgm hS
        refine step_store_rowM rfl _ _ rfl gm rfl (Msg.cs ⟨⟨#[97]⟩, H, ⟨#[98]⟩, L, txt 1⟩) rfl hth9 hszM (ms_one _) hV9 ?_
        (try simp only [Act.put, List.setIfInBounds_toArray, List.set_cons_zero, List.set_cons_succ])
        refine hK.out _ _ (hS9) ?_
        clear hHeld hK
        intro hHeld
        replace hz := hz9
        replace hS := hS9
        clear hth9 hV9 hz9 hk9 hS9
        (try simp only [Act.put, List.setIfInBounds_toArray, List.set_cons_zero, List.set_cons_succ])
        refine wpAnyH_done (by kernel_rfl) ?_ _
        clear hHeld
        go_wp2_with fail
        go_meet
        exact ⟨gm, rfl, hz, hgm, hS⟩
      refine AllReadyH.cons (by simp only [List.getElem?_toArray, List.getElem?_cons_zero, List.getElem?_cons_succ]; rfl) (fun K hK => ?_) AllReadyH.nil
      have hb := alloc_below w0 (.cells zM11 26)
      have hz : BlkL w0.heap.size zeroM.cs (w0.alloc (.cells zM11 26)) := blkl_alloc w0 zM11 26
      have hgm : Z.heap.size ≤ w0.heap.size := hS.size
      refine step_allocM (z := zM11) rfl rfl (fun _ => rfl) ?_
      (try simp only [Act.put, List.setIfInBounds_toArray, List.set_cons_zero, List.set_cons_succ])
      refine hK.out _ _ (Below.then hS hb) ?_
      clear hHeld hK
      intro hHeld
      replace hS := Below.then hS hb
      clear hb
      generalize w0.alloc (.cells zM11 26) = w1 at *
      generalize w0.heap.size = gm at *
      (try simp only [Act.put, List.setIfInBounds_toArray, List.set_cons_zero, List.set_cons_succ])
      refine wpAnyH_ready (rs := [2, 4]) (by kernel_rfl) (by simp) ?_
      refine AllReadyH.cons (by simp only [List.getElem?_toArray, List.getElem?_cons_zero, List.getElem?_cons_succ]; rfl) (fun K hK => ?_) ?_
      · go_simp
        have hb := alloc_below w1 (.cells #[.string ⟨#[111, 110, 101]⟩, .string ⟨#[116, 119, 111]⟩, .string ⟨#[116, 104, 114, 101, 101]⟩] 9)
        refine hK.out _ _ (Below.then hS hb) ?_
        clear hHeld hK
        intro hHeld
        have hg : BlkL w1.heap.size [.string ⟨#[111, 110, 101]⟩, .string ⟨#[116, 119, 111]⟩, .string ⟨#[116, 104, 114, 101, 101]⟩] (w1.alloc (.cells #[.string ⟨#[111, 110, 101]⟩, .string ⟨#[116, 119, 111]⟩, .string ⟨#[116, 104, 114, 101, 101]⟩] 9)) := blkl_alloc w1 #[.string ⟨#[111, 110, 101]⟩, .string ⟨#[116, 119, 111]⟩, .string ⟨#[116, 104, 114, 101, 101]⟩] 9
        replace hz := stab_blk _ _ _ _ hz hb
        replace hS := Below.then hS hb
        clear hb
        generalize w1.alloc (.cells #[.string ⟨#[111, 110, 101]⟩, .string ⟨#[116, 119, 111]⟩, .string ⟨#[116, 104, 114, 101, 101]⟩] 9) = w2 at *
        generalize w1.heap.size = gs at *
        (try simp only [Act.put, List.setIfInBounds_toArray, List.set_cons_zero, List.set_cons_succ])
        refine wpAnyH_ready (rs := [4]) (by kernel_rfl) (by simp) ?_
        refine AllReadyH.cons (by simp only [List.getElem?_toArray, List.getElem?_cons_zero, List.getElem?_cons_succ]; rfl) (fun K hK => ?_) AllReadyH.nil
        go_simp
        refine (kw3 w2).mono ?_
        rintro e w3 ⟨rfl, hb⟩
        replace hS := Below.then hS hb
        replace hg := stab_blk _ _ _ _ hg hb
        replace hz := stab_blk _ _ _ _ hz hb
        clear hb
        refine hK.out _ _ (hS) ?_
        clear hHeld hK
        intro hHeld
        (try simp only [Act.put, List.setIfInBounds_toArray, List.set_cons_zero, List.set_cons_succ])
        refine wpAnyH_take (i := 5) (v := ?_) (by simp only [List.getElem?_toArray, List.getElem?_cons_zero, List.getElem?_cons_succ]; rfl) (by kernel_rfl) (by kernel_rfl) (by kernel_rfl) (by exact fun _ _ _ h => h) (Or.inl ⟨by rfl, ?_⟩) (by assumption) ?_; rotate_left; (focus (intro w hSw; (try dsimp only at hSw); go_simp; try with_reducible rfl)); (try simp only [Act.put, List.setIfInBounds_toArray, List.set_cons_zero, List.set_cons_succ])
        refine wpAnyH_ready (rs := [6]) (by kernel_rfl) (by simp) ?_
        refine AllReadyH.cons (by simp only [List.getElem?_toArray, List.getElem?_cons_zero, List.getElem?_cons_succ]; rfl) (fun K hK => ?_) AllReadyH.nil
        refine step_oneM rfl _ rfl ⟨gs, 1, none⟩ rfl (.string ⟨#[116, 119, 111]⟩) (hg.1 1 _ rfl).1 strM_load ?_
        (try simp only [Act.put, List.setIfInBounds_toArray, List.set_cons_zero, List.set_cons_succ])
        refine hK.out _ _ (hS) ?_
        clear hHeld hK
        intro hHeld
        obtain ⟨w4, hw⟩ : ∃ X, w3 = X := ⟨_, rfl⟩
        rw [hw] at hS hg hz ⊢
        clear hw
        (try simp only [Act.put, List.setIfInBounds_toArray, List.set_cons_zero, List.set_cons_succ])
        refine wpAnyH_take (i := 7) (v := ?_) (by simp only [List.getElem?_toArray, List.getElem?_cons_zero, List.getElem?_cons_succ]; rfl) (by kernel_rfl) (by kernel_rfl) (by kernel_rfl) (by exact fun _ _ _ h => h) (Or.inl ⟨by rfl, ?_⟩) (by assumption) ?_; rotate_left; (focus (intro w hSw; (try dsimp only at hSw); go_simp; try with_reducible rfl)); (try simp only [Act.put, List.setIfInBounds_toArray, List.set_cons_zero, List.set_cons_succ])
        refine wpAnyH_ready (rs := [9]) (by kernel_rfl) (by simp) ?_
        refine AllReadyH.cons (by simp only [List.getElem?_toArray, List.getElem?_cons_zero, List.getElem?_cons_succ]; rfl) (fun K hK => ?_) AllReadyH.nil
        obtain ⟨V9, hV9, hth9, hz9, hk9⟩ := mput_any hz (ds := (Msg.cs ⟨⟨#[97]⟩, H, ⟨#[98]⟩, L, txt 1⟩)) rfl (by show 0 < 11; decide)
        have hS9 := hk9 _ _ hgm hS
        refine step_store_rowM rfl _ _ rfl gm rfl (Msg.cs ⟨⟨#[97]⟩, H, ⟨#[98]⟩, L, txt 1⟩) rfl hth9 hszM (ms_one _) hV9 ?_
        (try simp only [Act.put, List.setIfInBounds_toArray, List.set_cons_zero, List.set_cons_succ])
        refine hK.out _ _ (hS9) ?_
        clear hHeld hK
        intro hHeld
        replace hz := hz9
        replace hS := hS9
        clear hth9 hV9 hz9 hk9 hS9
        (try simp only [Act.put, List.setIfInBounds_toArray, List.set_cons_zero, List.set_cons_succ])
        refine wpAnyH_done (by kernel_rfl) ?_ _
        clear hHeld
        go_wp2_with fail
        go_meet
        exact ⟨gm, rfl, hz, hgm, hS⟩
      refine AllReadyH.cons (by simp only [List.getElem?_toArray, List.getElem?_cons_zero, List.getElem?_cons_succ]; rfl) (fun K hK => ?_) AllReadyH.nil
      go_simp
      refine (kw3 w1).mono ?_
      rintro e w2 ⟨rfl, hb⟩
      replace hS := Below.then hS hb
      replace hz := stab_blk _ _ _ _ hz hb
      clear hb
      refine hK.out _ _ (hS) ?_
      clear hHeld hK
      intro hHeld
      (try simp only [Act.put, List.setIfInBounds_toArray, List.set_cons_zero, List.set_cons_succ])
      refine wpAnyH_ready (rs := [2]) (by kernel_rfl) (by simp) ?_
      refine AllReadyH.cons (by simp only [List.getElem?_toArray, List.getElem?_cons_zero, List.getElem?_cons_succ]; rfl) (fun K hK => ?_) AllReadyH.nil
      go_simp
      have hb := alloc_below w2 (.cells #[.string ⟨#[111, 110, 101]⟩, .string ⟨#[116, 119, 111]⟩, .string ⟨#[116, 104, 114, 101, 101]⟩] 9)
      refine hK.out _ _ (Below.then hS hb) ?_
      clear hHeld hK
      intro hHeld
      have hg : BlkL w2.heap.size [.string ⟨#[111, 110, 101]⟩, .string ⟨#[116, 119, 111]⟩, .string ⟨#[116, 104, 114, 101, 101]⟩] (w2.alloc (.cells #[.string ⟨#[111, 110, 101]⟩, .string ⟨#[116, 119, 111]⟩, .string ⟨#[116, 104, 114, 101, 101]⟩] 9)) := blkl_alloc w2 #[.string ⟨#[111, 110, 101]⟩, .string ⟨#[116, 119, 111]⟩, .string ⟨#[116, 104, 114, 101, 101]⟩] 9
      replace hz := stab_blk _ _ _ _ hz hb
      replace hS := Below.then hS hb
      clear hb
      generalize w2.alloc (.cells #[.string ⟨#[111, 110, 101]⟩, .string ⟨#[116, 119, 111]⟩, .string ⟨#[116, 104, 114, 101, 101]⟩] 9) = w3 at *
      generalize w2.heap.size = gs at *
      (try simp only [Act.put, List.setIfInBounds_toArray, List.set_cons_zero, List.set_cons_succ])
      refine wpAnyH_take (i := 5) (v := ?_) (by simp only [List.getElem?_toArray, List.getElem?_cons_zero, List.getElem?_cons_succ]; rfl) (by kernel_rfl) (by kernel_rfl) (by kernel_rfl) (by exact fun _ _ _ h => h) (Or.inl ⟨by rfl, ?_⟩) (by assumption) ?_; rotate_left; (focus (intro w hSw; (try dsimp only at hSw); go_simp; try with_reducible rfl)); (try simp only [Act.put, List.setIfInBounds_toArray, List.set_cons_zero, List.set_cons_succ])
      refine wpAnyH_ready (rs := [6]) (by kernel_rfl) (by simp) ?_
      refine AllReadyH.cons (by simp only [List.getElem?_toArray, List.getElem?_cons_zero, List.getElem?_cons_succ]; rfl) (fun K hK => ?_) AllReadyH.nil
      refine step_oneM rfl _ rfl ⟨gs, 1, none⟩ rfl (.string ⟨#[116, 119, 111]⟩) (hg.1 1 _ rfl).1 strM_load ?_
      (try simp only [Act.put, List.setIfInBounds_toArray, List.set_cons_zero, List.set_cons_succ])
      refine hK.out _ _ (hS) ?_
      clear hHeld hK
      intro hHeld
      obtain ⟨w4, hw⟩ : ∃ X, w3 = X := ⟨_, rfl⟩
      rw [hw] at hS hg hz ⊢
      clear hw
      (try simp only [Act.put, List.setIfInBounds_toArray, List.set_cons_zero, List.set_cons_succ])
      refine wpAnyH_take (i := 7) (v := ?_) (by simp only [List.getElem?_toArray, List.getElem?_cons_zero, List.getElem?_cons_succ]; rfl) (by kernel_rfl) (by kernel_rfl) (by kernel_rfl) (by exact fun _ _ _ h => h) (Or.inl ⟨by rfl, ?_⟩) (by assumption) ?_; rotate_left; (focus (intro w hSw; (try dsimp only at hSw); go_simp; try with_reducible rfl)); (try simp only [Act.put, List.setIfInBounds_toArray, List.set_cons_zero, List.set_cons_succ])
      refine wpAnyH_ready (rs := [9]) (by kernel_rfl) (by simp) ?_
      refine AllReadyH.cons (by simp only [List.getElem?_toArray, List.getElem?_cons_zero, List.getElem?_cons_succ]; rfl) (fun K hK => ?_) AllReadyH.nil
      obtain ⟨V9, hV9, hth9, hz9, hk9⟩ := mput_any hz (ds := (Msg.cs ⟨⟨#[97]⟩, H, ⟨#[98]⟩, L, txt 1⟩)) rfl (by show 0 < 11; decide)
      have hS9 := hk9 _ _ hgm hS
      refine step_store_rowM rfl _ _ rfl gm rfl (Msg.cs ⟨⟨#[97]⟩, H, ⟨#[98]⟩, L, txt 1⟩) rfl hth9 hszM (ms_one _) hV9 ?_
      (try simp only [Act.put, List.setIfInBounds_toArray, List.set_cons_zero, List.set_cons_succ])
      refine hK.out _ _ (hS9) ?_
      clear hHeld hK
      intro hHeld
      replace hz := hz9
      replace hS := hS9
      clear hth9 hV9 hz9 hk9 hS9
      (try simp only [Act.put, List.setIfInBounds_toArray, List.set_cons_zero, List.set_cons_succ])
      refine wpAnyH_done (by kernel_rfl) ?_ _
      clear hHeld
      go_wp2_with fail
      go_meet
      exact ⟨gm, rfl, hz, hgm, hS⟩
    · skip
      refine wp_region_held_drew (S := (fun W => Below Z.heap.size Z W)) (by kernel_rfl) (by exact hS) ?_
      intro hHeld
      generalize Z.drew = w0 at *
      refine wpAnyH_take (i := 0) (v := _) (by simp only [List.getElem?_toArray, List.getElem?_cons_zero, List.getElem?_cons_succ]; rfl) (by kernel_rfl) (by kernel_rfl) (by kernel_rfl) (by exact fun _ _ _ h => h) (yields_row (by rfl) _ rfl w.heap.size rfl (lab4 H) (fun _ q => BlkL.range (stab_blk _ _ _ _ hp5 q)) hundL rfl (hszL H)) (by assumption) ?_; (try simp only [Act.put, List.setIfInBounds_toArray, List.set_cons_zero, List.set_cons_succ])
      refine wpAnyH_take (i := 1) (v := _) (by simp only [List.getElem?_toArray, List.getElem?_cons_zero, List.getElem?_cons_succ]; rfl) (by kernel_rfl) (by kernel_rfl) (by kernel_rfl) (by exact fun _ _ _ h => h) (yields_row (by rfl) _ rfl (w.heap.size + 1) rfl (lab4 L) (fun _ q => BlkL.range (stab_blk _ _ _ _ hq5 q)) hundL rfl (hszL L)) (by assumption) ?_; (try simp only [Act.put, List.setIfInBounds_toArray, List.set_cons_zero, List.set_cons_succ])
      refine wpAnyH_take (i := 3) (v := ?_) (by simp only [List.getElem?_toArray, List.getElem?_cons_zero, List.getElem?_cons_succ]; rfl) (by kernel_rfl) (by kernel_rfl) (by kernel_rfl) (by exact fun _ _ _ h => h) (Or.inl ⟨by rfl, ?_⟩) (by assumption) ?_; rotate_left; (focus (intro w hSw; (try dsimp only at hSw); go_simp; try with_reducible rfl)); (try simp only [Act.put, List.setIfInBounds_toArray, List.set_cons_zero, List.set_cons_succ])
      refine wpAnyH_ready (rs := [2, 4, 8]) (by kernel_rfl) (by simp) ?_
      refine AllReadyH.cons (by simp only [List.getElem?_toArray, List.getElem?_cons_zero, List.getElem?_cons_succ]; rfl) (fun K hK => ?_) ?_
      · go_simp
        have hb := alloc_below w0 (.cells #[.string ⟨#[111, 110, 101]⟩, .string ⟨#[116, 119, 111]⟩, .string ⟨#[116, 104, 114, 101, 101]⟩] 9)
        refine hK.out _ _ (Below.then hS hb) ?_
        clear hHeld hK
        intro hHeld
        have hg : BlkL w0.heap.size [.string ⟨#[111, 110, 101]⟩, .string ⟨#[116, 119, 111]⟩, .string ⟨#[116, 104, 114, 101, 101]⟩] (w0.alloc (.cells #[.string ⟨#[111, 110, 101]⟩, .string ⟨#[116, 119, 111]⟩, .string ⟨#[116, 104, 114, 101, 101]⟩] 9)) := blkl_alloc w0 #[.string ⟨#[111, 110, 101]⟩, .string ⟨#[116, 119, 111]⟩, .string ⟨#[116, 104, 114, 101, 101]⟩] 9
        replace hS := Below.then hS hb
        clear hb
        generalize w0.alloc (.cells #[.string ⟨#[111, 110, 101]⟩, .string ⟨#[116, 119, 111]⟩, .string ⟨#[116, 104, 114, 101, 101]⟩] 9) = w1 at *
        generalize w0.heap.size = gs at *
        (try simp only [Act.put, List.setIfInBounds_toArray, List.set_cons_zero, List.set_cons_succ])
        refine wpAnyH_ready (rs := [4, 8]) (by kernel_rfl) (by simp) ?_
        refine AllReadyH.cons (by simp only [List.getElem?_toArray, List.getElem?_cons_zero, List.getElem?_cons_succ]; rfl) (fun K hK => ?_) ?_
        · go_simp
          refine (kw3 w1).mono ?_
          rintro e w2 ⟨rfl, hb⟩
          replace hS := Below.then hS hb
          replace hg := stab_blk _ _ _ _ hg hb
          clear hb
          refine hK.out _ _ (hS) ?_
          clear hHeld hK
          intro hHeld
          (try simp only [Act.put, List.setIfInBounds_toArray, List.set_cons_zero, List.set_cons_succ])
          refine wpAnyH_take (i := 5) (v := ?_) (by simp only [List.getElem?_toArray, List.getElem?_cons_zero, List.getElem?_cons_succ]; rfl) (by kernel_rfl) (by kernel_rfl) (by kernel_rfl) (by exact fun _ _ _ h => h) (Or.inl ⟨by rfl, ?_⟩) (by assumption) ?_; rotate_left; (focus (intro w hSw; (try dsimp only at hSw); go_simp; try with_reducible rfl)); (try simp only [Act.put, List.setIfInBounds_toArray, List.set_cons_zero, List.set_cons_succ])
          refine wpAnyH_ready (rs := [6, 8]) (by kernel_rfl) (by simp) ?_
          refine AllReadyH.cons (by simp only [List.getElem?_toArray, List.getElem?_cons_zero, List.getElem?_cons_succ]; rfl) (fun K hK => ?_) ?_
          · skip
            refine step_oneM rfl _ rfl ⟨gs, 2, none⟩ rfl (.string ⟨#[116, 104, 114, 101, 101]⟩) (hg.1 2 _ rfl).1 strM_load ?_
            (try simp only [Act.put, List.setIfInBounds_toArray, List.set_cons_zero, List.set_cons_succ])
            refine hK.out _ _ (hS) ?_
            clear hHeld hK
            intro hHeld
            obtain ⟨w3, hw⟩ : ∃ X, w2 = X := ⟨_, rfl⟩
            rw [hw] at hS hg ⊢
            clear hw
            (try simp only [Act.put, List.setIfInBounds_toArray, List.set_cons_zero, List.set_cons_succ])
            refine wpAnyH_take (i := 7) (v := ?_) (by simp only [List.getElem?_toArray, List.getElem?_cons_zero, List.getElem?_cons_succ]; rfl) (by kernel_rfl) (by kernel_rfl) (by kernel_rfl) (by exact fun _ _ _ h => h) (Or.inl ⟨by rfl, ?_⟩) (by assumption) ?_; rotate_left; (focus (intro w hSw; (try dsimp only at hSw); go_simp; try with_reducible rfl)); (try simp only [Act.put, List.setIfInBounds_toArray, List.set_cons_zero, List.set_cons_succ])
            refine wpAnyH_ready (rs := [8]) (by kernel_rfl) (by simp) ?_
            refine AllReadyH.cons (by simp only [List.getElem?_toArray, List.getElem?_cons_zero, List.getElem?_cons_succ]; rfl) (fun K hK => ?_) AllReadyH.nil
            have hb := alloc_below w3 (.cells zM11 26)
            have hz : BlkL w3.heap.size zeroM.cs (w3.alloc (.cells zM11 26)) := blkl_alloc w3 zM11 26
            have hgm : Z.heap.size ≤ w3.heap.size := hS.size
            refine step_allocM (z := zM11) rfl rfl (fun _ => rfl) ?_
            (try simp only [Act.put, List.setIfInBounds_toArray, List.set_cons_zero, List.set_cons_succ])
            refine hK.out _ _ (Below.then hS hb) ?_
            clear hHeld hK
            intro hHeld
            replace hg := stab_blk _ _ _ _ hg hb
            replace hS := Below.then hS hb
            clear hb
            generalize w3.alloc (.cells zM11 26) = w4 at *
            generalize w3.heap.size = gm at *
            (try simp only [Act.put, List.setIfInBounds_toArray, List.set_cons_zero, List.set_cons_succ])
            refine wpAnyH_ready (rs := [9]) (by kernel_rfl) (by simp) ?_
            refine AllReadyH.cons (by simp only [List.getElem?_toArray, List.getElem?_cons_zero, List.getElem?_cons_succ]; rfl) (fun K hK => ?_) AllReadyH.nil
            obtain ⟨V9, hV9, hth9, hz9, hk9⟩ := mput_any hz (ds := (Msg.cs ⟨⟨#[97]⟩, H, ⟨#[98]⟩, L, txt 2⟩)) rfl (by show 0 < 11; decide)
            have hS9 := hk9 _ _ hgm hS
            refine step_store_rowM rfl _ _ rfl gm rfl (Msg.cs ⟨⟨#[97]⟩, H, ⟨#[98]⟩, L, txt 2⟩) rfl hth9 hszM (ms_one _) hV9 ?_
            (try simp only [Act.put, List.setIfInBounds_toArray, List.set_cons_zero, List.set_cons_succ])
            refine hK.out _ _ (hS9) ?_
            clear hHeld hK
            intro hHeld
            replace hz := hz9
            replace hS := hS9
            clear hth9 hV9 hz9 hk9 hS9
            (try simp only [Act.put, List.setIfInBounds_toArray, List.set_cons_zero, List.set_cons_succ])
            refine wpAnyH_done (by kernel_rfl) ?_ _
            clear hHeld
            go_wp2_with fail
            go_meet
            exact ⟨gm, rfl, hz, hgm, hS⟩
          refine AllReadyH.cons (by simp only [List.getElem?_toArray, List.getElem?_cons_zero, List.getElem?_cons_succ]; rfl) (fun K hK => ?_) AllReadyH.nil
          have hb := alloc_below w2 (.cells zM11 26)
          have hz : BlkL w2.heap.size zeroM.cs (w2.alloc (.cells zM11 26)) := blkl_alloc w2 zM11 26
          have hgm : Z.heap.size ≤ w2.heap.size := hS.size
          refine step_allocM (z := zM11) rfl rfl (fun _ => rfl) ?_
          (try simp only [Act.put, List.setIfInBounds_toArray, List.set_cons_zero, List.set_cons_succ])
          refine hK.out _ _ (Below.then hS hb) ?_
          clear hHeld hK
          intro hHeld
          replace hg := stab_blk _ _ _ _ hg hb
          replace hS := Below.then hS hb
          clear hb
          generalize w2.alloc (.cells zM11 26) = w3 at *
          generalize w2.heap.size = gm at *
          (try simp only [Act.put, List.setIfInBounds_toArray, List.set_cons_zero, List.set_cons_succ])
          refine wpAnyH_ready (rs := [6]) (by kernel_rfl) (by simp) ?_
          refine AllReadyH.cons (by simp only [List.getElem?_toArray, List.getElem?_cons_zero, List.getElem?_cons_succ]; rfl) (fun K hK => ?_) AllReadyH.nil
          refine step_oneM rfl _ rfl ⟨gs, 2, none⟩ rfl (.string ⟨#[116, 104, 114, 101, 101]⟩) (hg.1 2 _ rfl).1 strM_load ?_
          (try simp only [Act.put, List.setIfInBounds_toArray, List.set_cons_zero, List.set_cons_succ])
          refine hK.out _ _ (hS) ?_
          clear hHeld hK
          intro hHeld
          obtain ⟨w4, hw⟩ : ∃ X, w3 = X := ⟨_, rfl⟩
          rw [hw] at hS hg hz ⊢
          clear hw
          (try simp only [Act.put, List.setIfInBounds_toArray, List.set_cons_zero, List.set_cons_succ])
          refine wpAnyH_take (i := 7) (v := ?_) (by simp only [List.getElem?_toArray, List.getElem?_cons_zero, List.getElem?_cons_succ]; rfl) (by kernel_rfl) (by kernel_rfl) (by kernel_rfl) (by exact fun _ _ _ h => h) (Or.inl ⟨by rfl, ?_⟩) (by assumption) ?_; rotate_left; (focus (intro w hSw; (try dsimp only at hSw); go_simp; try with_reducible rfl)); (try simp only [Act.put, List.setIfInBounds_toArray, List.set_cons_zero, List.set_cons_succ])
          refine wpAnyH_ready (rs := [9]) (by kernel_rfl) (by simp) ?_
          refine AllReadyH.cons (by simp only [List.getElem?_toArray, List.getElem?_cons_zero, List.getElem?_cons_succ]; rfl) (fun K hK => ?_) AllReadyH.nil
          obtain ⟨V9, hV9, hth9, hz9, hk9⟩ := mput_any hz (ds := (Msg.cs ⟨⟨#[97]⟩, H, ⟨#[98]⟩, L, txt 2⟩)) rfl (by show 0 < 11; decide)
          have hS9 := hk9 _ _ hgm hS
          refine step_store_rowM rfl _ _ rfl gm rfl (Msg.cs ⟨⟨#[97]⟩, H, ⟨#[98]⟩, L, txt 2⟩) rfl hth9 hszM (ms_one _) hV9 ?_
          (try simp only [Act.put, List.setIfInBounds_toArray, List.set_cons_zero, List.set_cons_succ])
          refine hK.out _ _ (hS9) ?_
          clear hHeld hK
          intro hHeld
          replace hz := hz9
          replace hS := hS9
          clear hth9 hV9 hz9 hk9 hS9
          (try simp only [Act.put, List.setIfInBounds_toArray, List.set_cons_zero, List.set_cons_succ])
          refine wpAnyH_done (by kernel_rfl) ?_ _
          clear hHeld
          go_wp2_with fail
          go_meet
          exact ⟨gm, rfl, hz, hgm, hS⟩
        refine AllReadyH.cons (by simp only [List.getElem?_toArray, List.getElem?_cons_zero, List.getElem?_cons_succ]; rfl) (fun K hK => ?_) AllReadyH.nil
        have hb := alloc_below w1 (.cells zM11 26)
        have hz : BlkL w1.heap.size zeroM.cs (w1.alloc (.cells zM11 26)) := blkl_alloc w1 zM11 26
        have hgm : Z.heap.size ≤ w1.heap.size := hS.size
        refine step_allocM (z := zM11) rfl rfl (fun _ => rfl) ?_
        (try simp only [Act.put, List.setIfInBounds_toArray, List.set_cons_zero, List.set_cons_succ])
        refine hK.out _ _ (Below.then hS hb) ?_
        clear hHeld hK
        intro hHeld
        replace hg := stab_blk _ _ _ _ hg hb
        replace hS := Below.then hS hb
        clear hb
        generalize w1.alloc (.cells zM11 26) = w2 at *
        generalize w1.heap.size = gm at *
        (try simp only [Act.put, List.setIfInBounds_toArray, List.set_cons_zero, List.set_cons_succ])
        refine wpAnyH_ready (rs := [4]) (by kernel_rfl) (by simp) ?_
        refine AllReadyH.cons (by simp only [List.getElem?_toArray, List.getElem?_cons_zero, List.getElem?_cons_succ]; rfl) (fun K hK => ?_) AllReadyH.nil
        go_simp
        refine (kw3 w2).mono ?_
        rintro e w3 ⟨rfl, hb⟩
        replace hS := Below.then hS hb
        replace hg := stab_blk _ _ _ _ hg hb
        replace hz := stab_blk _ _ _ _ hz hb
        clear hb
        refine hK.out _ _ (hS) ?_
        clear hHeld hK
        intro hHeld
        (try simp only [Act.put, List.setIfInBounds_toArray, List.set_cons_zero, List.set_cons_succ])
        refine wpAnyH_take (i := 5) (v := ?_) (by simp only [List.getElem?_toArray, List.getElem?_cons_zero, List.getElem?_cons_succ]; rfl) (by kernel_rfl) (by kernel_rfl) (by kernel_rfl) (by exact fun _ _ _ h => h) (Or.inl ⟨by rfl, ?_⟩) (by assumption) ?_; rotate_left; (focus (intro w hSw; (try dsimp only at hSw); go_simp; try with_reducible rfl)); (try simp only [Act.put, List.setIfInBounds_toArray, List.set_cons_zero, List.set_cons_succ])
        refine wpAnyH_ready (rs := [6]) (by kernel_rfl) (by simp) ?_
        refine AllReadyH.cons (by simp only [List.getElem?_toArray, List.getElem?_cons_zero, List.getElem?_cons_succ]; rfl) (fun K hK => ?_) AllReadyH.nil
        refine step_oneM rfl _ rfl ⟨gs, 2, none⟩ rfl (.string ⟨#[116, 104, 114, 101, 101]⟩) (hg.1 2 _ rfl).1 strM_load ?_
        (try simp only [Act.put, List.setIfInBounds_toArray, List.set_cons_zero, List.set_cons_succ])
        refine hK.out _ _ (hS) ?_
        clear hHeld hK
        intro hHeld
        obtain ⟨w4, hw⟩ : ∃ X, w3 = X := ⟨_, rfl⟩
        rw [hw] at hS hg hz ⊢
        clear hw
        (try simp only [Act.put, List.setIfInBounds_toArray, List.set_cons_zero, List.set_cons_succ])
        refine wpAnyH_take (i := 7) (v := ?_) (by simp only [List.getElem?_toArray, List.getElem?_cons_zero, List.getElem?_cons_succ]; rfl) (by kernel_rfl) (by kernel_rfl) (by kernel_rfl) (by exact fun _ _ _ h => h) (Or.inl ⟨by rfl, ?_⟩) (by assumption) ?_; rotate_left; (focus (intro w hSw; (try dsimp only at hSw); go_simp; try with_reducible rfl)); (try simp only [Act.put, List.setIfInBounds_toArray, List.set_cons_zero, List.set_cons_succ])
        refine wpAnyH_ready (rs := [9]) (by kernel_rfl) (by simp) ?_
        refine AllReadyH.cons (by simp only [List.getElem?_toArray, List.getElem?_cons_zero, List.getElem?_cons_succ]; rfl) (fun K hK => ?_) AllReadyH.nil
        obtain ⟨V9, hV9, hth9, hz9, hk9⟩ := mput_any hz (ds := (Msg.cs ⟨⟨#[97]⟩, H, ⟨#[98]⟩, L, txt 2⟩)) rfl (by show 0 < 11; decide)
        have hS9 := hk9 _ _ hgm hS
        refine step_store_rowM rfl _ _ rfl gm rfl (Msg.cs ⟨⟨#[97]⟩, H, ⟨#[98]⟩, L, txt 2⟩) rfl hth9 hszM (ms_one _) hV9 ?_
        (try simp only [Act.put, List.setIfInBounds_toArray, List.set_cons_zero, List.set_cons_succ])
        refine hK.out _ _ (hS9) ?_
        clear hHeld hK
        intro hHeld
        replace hz := hz9
        replace hS := hS9
        clear hth9 hV9 hz9 hk9 hS9
        (try simp only [Act.put, List.setIfInBounds_toArray, List.set_cons_zero, List.set_cons_succ])
        refine wpAnyH_done (by kernel_rfl) ?_ _
        clear hHeld
        go_wp2_with fail
        go_meet
        exact ⟨gm, rfl, hz, hgm, hS⟩
      refine AllReadyH.cons (by simp only [List.getElem?_toArray, List.getElem?_cons_zero, List.getElem?_cons_succ]; rfl) (fun K hK => ?_) ?_
      · go_simp
        refine (kw3 w0).mono ?_
        rintro e w1 ⟨rfl, hb⟩
        replace hS := Below.then hS hb
        clear hb
        refine hK.out _ _ (hS) ?_
        clear hHeld hK
        intro hHeld
        (try simp only [Act.put, List.setIfInBounds_toArray, List.set_cons_zero, List.set_cons_succ])
        refine wpAnyH_ready (rs := [2, 8]) (by kernel_rfl) (by simp) ?_
        refine AllReadyH.cons (by simp only [List.getElem?_toArray, List.getElem?_cons_zero, List.getElem?_cons_succ]; rfl) (fun K hK => ?_) ?_
        · go_simp
          have hb := alloc_below w1 (.cells #[.string ⟨#[111, 110, 101]⟩, .string ⟨#[116, 119, 111]⟩, .string ⟨#[116, 104, 114, 101, 101]⟩] 9)
          refine hK.out _ _ (Below.then hS hb) ?_
          clear hHeld hK
          intro hHeld
          have hg : BlkL w1.heap.size [.string ⟨#[111, 110, 101]⟩, .string ⟨#[116, 119, 111]⟩, .string ⟨#[116, 104, 114, 101, 101]⟩] (w1.alloc (.cells #[.string ⟨#[111, 110, 101]⟩, .string ⟨#[116, 119, 111]⟩, .string ⟨#[116, 104, 114, 101, 101]⟩] 9)) := blkl_alloc w1 #[.string ⟨#[111, 110, 101]⟩, .string ⟨#[116, 119, 111]⟩, .string ⟨#[116, 104, 114, 101, 101]⟩] 9
          replace hS := Below.then hS hb
          clear hb
          generalize w1.alloc (.cells #[.string ⟨#[111, 110, 101]⟩, .string ⟨#[116, 119, 111]⟩, .string ⟨#[116, 104, 114, 101, 101]⟩] 9) = w2 at *
          generalize w1.heap.size = gs at *
          (try simp only [Act.put, List.setIfInBounds_toArray, List.set_cons_zero, List.set_cons_succ])
          refine wpAnyH_take (i := 5) (v := ?_) (by simp only [List.getElem?_toArray, List.getElem?_cons_zero, List.getElem?_cons_succ]; rfl) (by kernel_rfl) (by kernel_rfl) (by kernel_rfl) (by exact fun _ _ _ h => h) (Or.inl ⟨by rfl, ?_⟩) (by assumption) ?_; rotate_left; (focus (intro w hSw; (try dsimp only at hSw); go_simp; try with_reducible rfl)); (try simp only [Act.put, List.setIfInBounds_toArray, List.set_cons_zero, List.set_cons_succ])
          refine wpAnyH_ready (rs := [6, 8]) (by kernel_rfl) (by simp) ?_
          refine AllReadyH.cons (by simp only [List.getElem?_toArray, List.getElem?_cons_zero, List.getElem?_cons_succ]; rfl) (fun K hK => ?_) ?_
          · skip
            refine step_oneM rfl _ rfl ⟨gs, 2, none⟩ rfl (.string ⟨#[116, 104, 114, 101, 101]⟩) (hg.1 2 _ rfl).1 strM_load ?_
            (try simp only [Act.put, List.setIfInBounds_toArray, List.set_cons_zero, List.set_cons_succ])
            refine hK.out _ _ (hS) ?_
            clear hHeld hK
            intro hHeld
            obtain ⟨w3, hw⟩ : ∃ X, w2 = X := ⟨_, rfl⟩
            rw [hw] at hS hg ⊢
            clear hw
            (try simp only [Act.put, List.setIfInBounds_toArray, List.set_cons_zero, List.set_cons_succ])
            refine wpAnyH_take (i := 7) (v := ?_) (by simp only [List.getElem?_toArray, List.getElem?_cons_zero, List.getElem?_cons_succ]; rfl) (by kernel_rfl) (by kernel_rfl) (by kernel_rfl) (by exact fun _ _ _ h => h) (Or.inl ⟨by rfl, ?_⟩) (by assumption) ?_; rotate_left; (focus (intro w hSw; (try dsimp only at hSw); go_simp; try with_reducible rfl)); (try simp only [Act.put, List.setIfInBounds_toArray, List.set_cons_zero, List.set_cons_succ])
            refine wpAnyH_ready (rs := [8]) (by kernel_rfl) (by simp) ?_
            refine AllReadyH.cons (by simp only [List.getElem?_toArray, List.getElem?_cons_zero, List.getElem?_cons_succ]; rfl) (fun K hK => ?_) AllReadyH.nil
            have hb := alloc_below w3 (.cells zM11 26)
            have hz : BlkL w3.heap.size zeroM.cs (w3.alloc (.cells zM11 26)) := blkl_alloc w3 zM11 26
            have hgm : Z.heap.size ≤ w3.heap.size := hS.size
            refine step_allocM (z := zM11) rfl rfl (fun _ => rfl) ?_
            (try simp only [Act.put, List.setIfInBounds_toArray, List.set_cons_zero, List.set_cons_succ])
            refine hK.out _ _ (Below.then hS hb) ?_
            clear hHeld hK
            intro hHeld
            replace hg := stab_blk _ _ _ _ hg hb
            replace hS := Below.then hS hb
            clear hb
            generalize w3.alloc (.cells zM11 26) = w4 at *
            generalize w3.heap.size = gm at *
            (try simp only [Act.put, List.setIfInBounds_toArray, List.set_cons_zero, List.set_cons_succ])
            refine wpAnyH_ready (rs := [9]) (by kernel_rfl) (by simp) ?_
            refine AllReadyH.cons (by simp only [List.getElem?_toArray, List.getElem?_cons_zero, List.getElem?_cons_succ]; rfl) (fun K hK => ?_) AllReadyH.nil
            obtain ⟨V9, hV9, hth9, hz9, hk9⟩ := mput_any hz (ds := (Msg.cs ⟨⟨#[97]⟩, H, ⟨#[98]⟩, L, txt 2⟩)) rfl (by show 0 < 11; decide)
            have hS9 := hk9 _ _ hgm hS
            refine step_store_rowM rfl _ _ rfl gm rfl (Msg.cs ⟨⟨#[97]⟩, H, ⟨#[98]⟩, L, txt 2⟩) rfl hth9 hszM (ms_one _) hV9 ?_
            (try simp only [Act.put, List.setIfInBounds_toArray, List.set_cons_zero, List.set_cons_succ])
            refine hK.out _ _ (hS9) ?_
            clear hHeld hK
            intro hHeld
            replace hz := hz9
            replace hS := hS9
            clear hth9 hV9 hz9 hk9 hS9
            (try simp only [Act.put, List.setIfInBounds_toArray, List.set_cons_zero, List.set_cons_succ])
            refine wpAnyH_done (by kernel_rfl) ?_ _
            clear hHeld
            go_wp2_with fail
            go_meet
            exact ⟨gm, rfl, hz, hgm, hS⟩
          refine AllReadyH.cons (by simp only [List.getElem?_toArray, List.getElem?_cons_zero, List.getElem?_cons_succ]; rfl) (fun K hK => ?_) AllReadyH.nil
          have hb := alloc_below w2 (.cells zM11 26)
          have hz : BlkL w2.heap.size zeroM.cs (w2.alloc (.cells zM11 26)) := blkl_alloc w2 zM11 26
          have hgm : Z.heap.size ≤ w2.heap.size := hS.size
          refine step_allocM (z := zM11) rfl rfl (fun _ => rfl) ?_
          (try simp only [Act.put, List.setIfInBounds_toArray, List.set_cons_zero, List.set_cons_succ])
          refine hK.out _ _ (Below.then hS hb) ?_
          clear hHeld hK
          intro hHeld
          replace hg := stab_blk _ _ _ _ hg hb
          replace hS := Below.then hS hb
          clear hb
          generalize w2.alloc (.cells zM11 26) = w3 at *
          generalize w2.heap.size = gm at *
          (try simp only [Act.put, List.setIfInBounds_toArray, List.set_cons_zero, List.set_cons_succ])
          refine wpAnyH_ready (rs := [6]) (by kernel_rfl) (by simp) ?_
          refine AllReadyH.cons (by simp only [List.getElem?_toArray, List.getElem?_cons_zero, List.getElem?_cons_succ]; rfl) (fun K hK => ?_) AllReadyH.nil
          refine step_oneM rfl _ rfl ⟨gs, 2, none⟩ rfl (.string ⟨#[116, 104, 114, 101, 101]⟩) (hg.1 2 _ rfl).1 strM_load ?_
          (try simp only [Act.put, List.setIfInBounds_toArray, List.set_cons_zero, List.set_cons_succ])
          refine hK.out _ _ (hS) ?_
          clear hHeld hK
          intro hHeld
          obtain ⟨w4, hw⟩ : ∃ X, w3 = X := ⟨_, rfl⟩
          rw [hw] at hS hg hz ⊢
          clear hw
          (try simp only [Act.put, List.setIfInBounds_toArray, List.set_cons_zero, List.set_cons_succ])
          refine wpAnyH_take (i := 7) (v := ?_) (by simp only [List.getElem?_toArray, List.getElem?_cons_zero, List.getElem?_cons_succ]; rfl) (by kernel_rfl) (by kernel_rfl) (by kernel_rfl) (by exact fun _ _ _ h => h) (Or.inl ⟨by rfl, ?_⟩) (by assumption) ?_; rotate_left; (focus (intro w hSw; (try dsimp only at hSw); go_simp; try with_reducible rfl)); (try simp only [Act.put, List.setIfInBounds_toArray, List.set_cons_zero, List.set_cons_succ])
          refine wpAnyH_ready (rs := [9]) (by kernel_rfl) (by simp) ?_
          refine AllReadyH.cons (by simp only [List.getElem?_toArray, List.getElem?_cons_zero, List.getElem?_cons_succ]; rfl) (fun K hK => ?_) AllReadyH.nil
          obtain ⟨V9, hV9, hth9, hz9, hk9⟩ := mput_any hz (ds := (Msg.cs ⟨⟨#[97]⟩, H, ⟨#[98]⟩, L, txt 2⟩)) rfl (by show 0 < 11; decide)
          have hS9 := hk9 _ _ hgm hS
          refine step_store_rowM rfl _ _ rfl gm rfl (Msg.cs ⟨⟨#[97]⟩, H, ⟨#[98]⟩, L, txt 2⟩) rfl hth9 hszM (ms_one _) hV9 ?_
          (try simp only [Act.put, List.setIfInBounds_toArray, List.set_cons_zero, List.set_cons_succ])
          refine hK.out _ _ (hS9) ?_
          clear hHeld hK
          intro hHeld
          replace hz := hz9
          replace hS := hS9
          clear hth9 hV9 hz9 hk9 hS9
          (try simp only [Act.put, List.setIfInBounds_toArray, List.set_cons_zero, List.set_cons_succ])
          refine wpAnyH_done (by kernel_rfl) ?_ _
          clear hHeld
          go_wp2_with fail
          go_meet
          exact ⟨gm, rfl, hz, hgm, hS⟩
        refine AllReadyH.cons (by simp only [List.getElem?_toArray, List.getElem?_cons_zero, List.getElem?_cons_succ]; rfl) (fun K hK => ?_) AllReadyH.nil
        have hb := alloc_below w1 (.cells zM11 26)
        have hz : BlkL w1.heap.size zeroM.cs (w1.alloc (.cells zM11 26)) := blkl_alloc w1 zM11 26
        have hgm : Z.heap.size ≤ w1.heap.size := hS.size
        refine step_allocM (z := zM11) rfl rfl (fun _ => rfl) ?_
        (try simp only [Act.put, List.setIfInBounds_toArray, List.set_cons_zero, List.set_cons_succ])
        refine hK.out _ _ (Below.then hS hb) ?_
        clear hHeld hK
        intro hHeld
        replace hS := Below.then hS hb
        clear hb
        generalize w1.alloc (.cells zM11 26) = w2 at *
        generalize w1.heap.size = gm at *
        (try simp only [Act.put, List.setIfInBounds_toArray, List.set_cons_zero, List.set_cons_succ])
        refine wpAnyH_ready (rs := [2]) (by kernel_rfl) (by simp) ?_
        refine AllReadyH.cons (by simp only [List.getElem?_toArray, List.getElem?_cons_zero, List.getElem?_cons_succ]; rfl) (fun K hK => ?_) AllReadyH.nil
        go_simp
        have hb := alloc_below w2 (.cells #[.string ⟨#[111, 110, 101]⟩, .string ⟨#[116, 119, 111]⟩, .string ⟨#[116, 104, 114, 101, 101]⟩] 9)
        refine hK.out _ _ (Below.then hS hb) ?_
        clear hHeld hK
        intro hHeld
        have hg : BlkL w2.heap.size [.string ⟨#[111, 110, 101]⟩, .string ⟨#[116, 119, 111]⟩, .string ⟨#[116, 104, 114, 101, 101]⟩] (w2.alloc (.cells #[.string ⟨#[111, 110, 101]⟩, .string ⟨#[116, 119, 111]⟩, .string ⟨#[116, 104, 114, 101, 101]⟩] 9)) := blkl_alloc w2 #[.string ⟨#[111, 110, 101]⟩, .string ⟨#[116, 119, 111]⟩, .string ⟨#[116, 104, 114, 101, 101]⟩] 9
        replace hz := stab_blk _ _ _ _ hz hb
        replace hS := Below.then hS hb
        clear hb
        generalize w2.alloc (.cells #[.string ⟨#[111, 110, 101]⟩, .string ⟨#[116, 119, 111]⟩, .string ⟨#[116, 104, 114, 101, 101]⟩] 9) = w3 at *
        generalize w2.heap.size = gs at *
        (try simp only [Act.put, List.setIfInBounds_toArray, List.set_cons_zero, List.set_cons_succ])
        refine wpAnyH_take (i := 5) (v := ?_) (by simp only [List.getElem?_toArray, List.getElem?_cons_zero, List.getElem?_cons_succ]; rfl) (by kernel_rfl) (by kernel_rfl) (by kernel_rfl) (by exact fun _ _ _ h => h) (Or.inl ⟨by rfl, ?_⟩) (by assumption) ?_; rotate_left; (focus (intro w hSw; (try dsimp only at hSw); go_simp; try with_reducible rfl)); (try simp only [Act.put, List.setIfInBounds_toArray, List.set_cons_zero, List.set_cons_succ])
        refine wpAnyH_ready (rs := [6]) (by kernel_rfl) (by simp) ?_
        refine AllReadyH.cons (by simp only [List.getElem?_toArray, List.getElem?_cons_zero, List.getElem?_cons_succ]; rfl) (fun K hK => ?_) AllReadyH.nil
        refine step_oneM rfl _ rfl ⟨gs, 2, none⟩ rfl (.string ⟨#[116, 104, 114, 101, 101]⟩) (hg.1 2 _ rfl).1 strM_load ?_
        (try simp only [Act.put, List.setIfInBounds_toArray, List.set_cons_zero, List.set_cons_succ])
        refine hK.out _ _ (hS) ?_
        clear hHeld hK
        intro hHeld
        obtain ⟨w4, hw⟩ : ∃ X, w3 = X := ⟨_, rfl⟩
        rw [hw] at hS hg hz ⊢
        clear hw
        (try simp only [Act.put, List.setIfInBounds_toArray, List.set_cons_zero, List.set_cons_succ])
        refine wpAnyH_take (i := 7) (v := ?_) (by simp only [List.getElem?_toArray, List.getElem?_cons_zero, List.getElem?_cons_succ]; rfl) (by kernel_rfl) (by kernel_rfl) (by kernel_rfl) (by exact fun _ _ _ h => h) (Or.inl ⟨by rfl, ?_⟩) (by assumption) ?_; rotate_left; (focus (intro w hSw; (try dsimp only at hSw); go_simp; try with_reducible rfl)); (try simp only [Act.put, List.setIfInBounds_toArray, List.set_cons_zero, List.set_cons_succ])
        refine wpAnyH_ready (rs := [9]) (by kernel_rfl) (by simp) ?_
        refine AllReadyH.cons (by simp only [List.getElem?_toArray, List.getElem?_cons_zero, List.getElem?_cons_succ]; rfl) (fun K hK => ?_) AllReadyH.nil
        obtain ⟨V9, hV9, hth9, hz9, hk9⟩ := mput_any hz (ds := (Msg.cs ⟨⟨#[97]⟩, H, ⟨#[98]⟩, L, txt 2⟩)) rfl (by show 0 < 11; decide)
        have hS9 := hk9 _ _ hgm hS
        refine step_store_rowM rfl _ _ rfl gm rfl (Msg.cs ⟨⟨#[97]⟩, H, ⟨#[98]⟩, L, txt 2⟩) rfl hth9 hszM (ms_one _) hV9 ?_
        (try simp only [Act.put, List.setIfInBounds_toArray, List.set_cons_zero, List.set_cons_succ])
        refine hK.out _ _ (hS9) ?_
        clear hHeld hK
        intro hHeld
        replace hz := hz9
        replace hS := hS9
        clear hth9 hV9 hz9 hk9 hS9
        (try simp only [Act.put, List.setIfInBounds_toArray, List.set_cons_zero, List.set_cons_succ])
        refine wpAnyH_done (by kernel_rfl) ?_ _
        clear hHeld
        go_wp2_with fail
        go_meet
        exact ⟨gm, rfl, hz, hgm, hS⟩
      refine AllReadyH.cons (by simp only [List.getElem?_toArray, List.getElem?_cons_zero, List.getElem?_cons_succ]; rfl) (fun K hK => ?_) AllReadyH.nil
      have hb := alloc_below w0 (.cells zM11 26)
      have hz : BlkL w0.heap.size zeroM.cs (w0.alloc (.cells zM11 26)) := blkl_alloc w0 zM11 26
      have hgm : Z.heap.size ≤ w0.heap.size := hS.size
      refine step_allocM (z := zM11) rfl rfl (fun _ => rfl) ?_
      (try simp only [Act.put, List.setIfInBounds_toArray, List.set_cons_zero, List.set_cons_succ])
      refine hK.out _ _ (Below.then hS hb) ?_
      clear hHeld hK
      intro hHeld
      replace hS := Below.then hS hb
      clear hb
      generalize w0.alloc (.cells zM11 26) = w1 at *
      generalize w0.heap.size = gm at *
      (try simp only [Act.put, List.setIfInBounds_toArray, List.set_cons_zero, List.set_cons_succ])
      refine wpAnyH_ready (rs := [2, 4]) (by kernel_rfl) (by simp) ?_
      refine AllReadyH.cons (by simp only [List.getElem?_toArray, List.getElem?_cons_zero, List.getElem?_cons_succ]; rfl) (fun K hK => ?_) ?_
      · go_simp
        have hb := alloc_below w1 (.cells #[.string ⟨#[111, 110, 101]⟩, .string ⟨#[116, 119, 111]⟩, .string ⟨#[116, 104, 114, 101, 101]⟩] 9)
        refine hK.out _ _ (Below.then hS hb) ?_
        clear hHeld hK
        intro hHeld
        have hg : BlkL w1.heap.size [.string ⟨#[111, 110, 101]⟩, .string ⟨#[116, 119, 111]⟩, .string ⟨#[116, 104, 114, 101, 101]⟩] (w1.alloc (.cells #[.string ⟨#[111, 110, 101]⟩, .string ⟨#[116, 119, 111]⟩, .string ⟨#[116, 104, 114, 101, 101]⟩] 9)) := blkl_alloc w1 #[.string ⟨#[111, 110, 101]⟩, .string ⟨#[116, 119, 111]⟩, .string ⟨#[116, 104, 114, 101, 101]⟩] 9
        replace hz := stab_blk _ _ _ _ hz hb
        replace hS := Below.then hS hb
        clear hb
        generalize w1.alloc (.cells #[.string ⟨#[111, 110, 101]⟩, .string ⟨#[116, 119, 111]⟩, .string ⟨#[116, 104, 114, 101, 101]⟩] 9) = w2 at *
        generalize w1.heap.size = gs at *
        (try simp only [Act.put, List.setIfInBounds_toArray, List.set_cons_zero, List.set_cons_succ])
        refine wpAnyH_ready (rs := [4]) (by kernel_rfl) (by simp) ?_
        refine AllReadyH.cons (by simp only [List.getElem?_toArray, List.getElem?_cons_zero, List.getElem?_cons_succ]; rfl) (fun K hK => ?_) AllReadyH.nil
        go_simp
        refine (kw3 w2).mono ?_
        rintro e w3 ⟨rfl, hb⟩
        replace hS := Below.then hS hb
        replace hg := stab_blk _ _ _ _ hg hb
        replace hz := stab_blk _ _ _ _ hz hb
        clear hb
        refine hK.out _ _ (hS) ?_
        clear hHeld hK
        intro hHeld
        (try simp only [Act.put, List.setIfInBounds_toArray, List.set_cons_zero, List.set_cons_succ])
        refine wpAnyH_take (i := 5) (v := ?_) (by simp only [List.getElem?_toArray, List.getElem?_cons_zero, List.getElem?_cons_succ]; rfl) (by kernel_rfl) (by kernel_rfl) (by kernel_rfl) (by exact fun _ _ _ h => h) (Or.inl ⟨by rfl, ?_⟩) (by assumption) ?_; rotate_left; (focus (intro w hSw; (try dsimp only at hSw); go_simp; try with_reducible rfl)); (try simp only [Act.put, List.setIfInBounds_toArray, List.set_cons_zero, List.set_cons_succ])
        refine wpAnyH_ready (rs := [6]) (by kernel_rfl) (by simp) ?_
        refine AllReadyH.cons (by simp only [List.getElem?_toArray, List.getElem?_cons_zero, List.getElem?_cons_succ]; rfl) (fun K hK => ?_) AllReadyH.nil
        refine step_oneM rfl _ rfl ⟨gs, 2, none⟩ rfl (.string ⟨#[116, 104, 114, 101, 101]⟩) (hg.1 2 _ rfl).1 strM_load ?_
        (try simp only [Act.put, List.setIfInBounds_toArray, List.set_cons_zero, List.set_cons_succ])
        refine hK.out _ _ (hS) ?_
        clear hHeld hK
        intro hHeld
        obtain ⟨w4, hw⟩ : ∃ X, w3 = X := ⟨_, rfl⟩
        rw [hw] at hS hg hz ⊢
        clear hw
        (try simp only [Act.put, List.setIfInBounds_toArray, List.set_cons_zero, List.set_cons_succ])
        refine wpAnyH_take (i := 7) (v := ?_) (by simp only [List.getElem?_toArray, List.getElem?_cons_zero, List.getElem?_cons_succ]; rfl) (by kernel_rfl) (by kernel_rfl) (by kernel_rfl) (by exact fun _ _ _ h => h) (Or.inl ⟨by rfl, ?_⟩) (by assumption) ?_; rotate_left; (focus (intro w hSw; (try dsimp only at hSw); go_simp; try with_reducible rfl)); (try simp only [Act.put, List.setIfInBounds_toArray, List.set_cons_zero, List.set_cons_succ])
        refine wpAnyH_ready (rs := [9]) (by kernel_rfl) (by simp) ?_
        refine AllReadyH.cons (by simp only [List.getElem?_toArray, List.getElem?_cons_zero, List.getElem?_cons_succ]; rfl) (fun K hK => ?_) AllReadyH.nil
        obtain ⟨V9, hV9, hth9, hz9, hk9⟩ := mput_any hz (ds := (Msg.cs ⟨⟨#[97]⟩, H, ⟨#[98]⟩, L, txt 2⟩)) rfl (by show 0 < 11; decide)
        have hS9 := hk9 _ _ hgm hS
        refine step_store_rowM rfl _ _ rfl gm rfl (Msg.cs ⟨⟨#[97]⟩, H, ⟨#[98]⟩, L, txt 2⟩) rfl hth9 hszM (ms_one _) hV9 ?_
        (try simp only [Act.put, List.setIfInBounds_toArray, List.set_cons_zero, List.set_cons_succ])
        refine hK.out _ _ (hS9) ?_
        clear hHeld hK
        intro hHeld
        replace hz := hz9
        replace hS := hS9
        clear hth9 hV9 hz9 hk9 hS9
        (try simp only [Act.put, List.setIfInBounds_toArray, List.set_cons_zero, List.set_cons_succ])
        refine wpAnyH_done (by kernel_rfl) ?_ _
        clear hHeld
        go_wp2_with fail
        go_meet
        exact ⟨gm, rfl, hz, hgm, hS⟩
      refine AllReadyH.cons (by simp only [List.getElem?_toArray, List.getElem?_cons_zero, List.getElem?_cons_succ]; rfl) (fun K hK => ?_) AllReadyH.nil
      go_simp
      refine (kw3 w1).mono ?_
      rintro e w2 ⟨rfl, hb⟩
      replace hS := Below.then hS hb
      replace hz := stab_blk _ _ _ _ hz hb
      clear hb
      refine hK.out _ _ (hS) ?_
      clear hHeld hK
      intro hHeld
      (try simp only [Act.put, List.setIfInBounds_toArray, List.set_cons_zero, List.set_cons_succ])
      refine wpAnyH_ready (rs := [2]) (by kernel_rfl) (by simp) ?_
      refine AllReadyH.cons (by simp only [List.getElem?_toArray, List.getElem?_cons_zero, List.getElem?_cons_succ]; rfl) (fun K hK => ?_) AllReadyH.nil
      go_simp
      have hb := alloc_below w2 (.cells #[.string ⟨#[111, 110, 101]⟩, .string ⟨#[116, 119, 111]⟩, .string ⟨#[116, 104, 114, 101, 101]⟩] 9)
      refine hK.out _ _ (Below.then hS hb) ?_
      clear hHeld hK
      intro hHeld
      have hg : BlkL w2.heap.size [.string ⟨#[111, 110, 101]⟩, .string ⟨#[116, 119, 111]⟩, .string ⟨#[116, 104, 114, 101, 101]⟩] (w2.alloc (.cells #[.string ⟨#[111, 110, 101]⟩, .string ⟨#[116, 119, 111]⟩, .string ⟨#[116, 104, 114, 101, 101]⟩] 9)) := blkl_alloc w2 #[.string ⟨#[111, 110, 101]⟩, .string ⟨#[116, 119, 111]⟩, .string ⟨#[116, 104, 114, 101, 101]⟩] 9
      replace hz := stab_blk _ _ _ _ hz hb
      replace hS := Below.then hS hb
      clear hb
      generalize w2.alloc (.cells #[.string ⟨#[111, 110, 101]⟩, .string ⟨#[116, 119, 111]⟩, .string ⟨#[116, 104, 114, 101, 101]⟩] 9) = w3 at *
      generalize w2.heap.size = gs at *
      (try simp only [Act.put, List.setIfInBounds_toArray, List.set_cons_zero, List.set_cons_succ])
      refine wpAnyH_take (i := 5) (v := ?_) (by simp only [List.getElem?_toArray, List.getElem?_cons_zero, List.getElem?_cons_succ]; rfl) (by kernel_rfl) (by kernel_rfl) (by kernel_rfl) (by exact fun _ _ _ h => h) (Or.inl ⟨by rfl, ?_⟩) (by assumption) ?_; rotate_left; (focus (intro w hSw; (try dsimp only at hSw); go_simp; try with_reducible rfl)); (try simp only [Act.put, List.setIfInBounds_toArray, List.set_cons_zero, List.set_cons_succ])
      refine wpAnyH_ready (rs := [6]) (by kernel_rfl) (by simp) ?_
      refine AllReadyH.cons (by simp only [List.getElem?_toArray, List.getElem?_cons_zero, List.getElem?_cons_succ]; rfl) (fun K hK => ?_) AllReadyH.nil
      refine step_oneM rfl _ rfl ⟨gs, 2, none⟩ rfl (.string ⟨#[116, 104, 114, 101, 101]⟩) (hg.1 2 _ rfl).1 strM_load ?_
      (try simp only [Act.put, List.setIfInBounds_toArray, List.set_cons_zero, List.set_cons_succ])
      refine hK.out _ _ (hS) ?_
      clear hHeld hK
      intro hHeld
      obtain ⟨w4, hw⟩ : ∃ X, w3 = X := ⟨_, rfl⟩
      rw [hw] at hS hg hz ⊢
      clear hw
      (try simp only [Act.put, List.setIfInBounds_toArray, List.set_cons_zero, List.set_cons_succ])
      refine wpAnyH_take (i := 7) (v := ?_) (by simp only [List.getElem?_toArray, List.getElem?_cons_zero, List.getElem?_cons_succ]; rfl) (by kernel_rfl) (by kernel_rfl) (by kernel_rfl) (by exact fun _ _ _ h => h) (Or.inl ⟨by rfl, ?_⟩) (by assumption) ?_; rotate_left; (focus (intro w hSw; (try dsimp only at hSw); go_simp; try with_reducible rfl)); (try simp only [Act.put, List.setIfInBounds_toArray, List.set_cons_zero, List.set_cons_succ])
      refine wpAnyH_ready (rs := [9]) (by kernel_rfl) (by simp) ?_
      refine AllReadyH.cons (by simp only [List.getElem?_toArray, List.getElem?_cons_zero, List.getElem?_cons_succ]; rfl) (fun K hK => ?_) AllReadyH.nil
      obtain ⟨V9, hV9, hth9, hz9, hk9⟩ := mput_any hz (ds := (Msg.cs ⟨⟨#[97]⟩, H, ⟨#[98]⟩, L, txt 2⟩)) rfl (by show 0 < 11; decide)
      have hS9 := hk9 _ _ hgm hS
      refine step_store_rowM rfl _ _ rfl gm rfl (Msg.cs ⟨⟨#[97]⟩, H, ⟨#[98]⟩, L, txt 2⟩) rfl hth9 hszM (ms_one _) hV9 ?_
      (try simp only [Act.put, List.setIfInBounds_toArray, List.set_cons_zero, List.set_cons_succ])
      refine hK.out _ _ (hS9) ?_
      clear hHeld hK
      intro hHeld
      replace hz := hz9
      replace hS := hS9
      clear hth9 hV9 hz9 hk9 hS9
      (try simp only [Act.put, List.setIfInBounds_toArray, List.set_cons_zero, List.set_cons_succ])
      refine wpAnyH_done (by kernel_rfl) ?_ _
      clear hHeld
      go_wp2_with fail
      go_meet
      exact ⟨gm, rfl, hz, hgm, hS⟩
  case rest =>
  obtain ⟨gm, rfl, hmm, hgm, hS9⟩ := hcut
  obtain ⟨V9, hV9⟩ : ∃ V, wc = V := ⟨_, rfl⟩
  rw [hV9] at hmm hS9 ⊢
  clear hV9 hS kw3
  have hne : L ≠ H := by
    intro hc
    rw [hc, rov_selfM hbH.1 hbH.2] at hov
    cases hov
  have hts : (txt q).size ≤ 40 := by
    rcases (by omega : q = 0 ∨ q = 1 ∨ q = 2) with rfl | rfl | rfl <;> decide
  have hfr := fun (o A B f t s : ByteArray) => first_rule hne o A B f t s
  have hsn := first_send hne hGH hGL hov otherT A B (txt q) hts
  have hm9 := stab_blk _ _ _ _ hm5 hS9
  have hB9 := Below.then hB5 hS9
  have hgmw : w.heap.size ≤ gm := Nat.le_trans hB5.size hgm
  clear hm5 hB5 hS9 hp5 hq5
  have kr : ∀ W, BlkL gr (c27 ⟨L, H, otherT⟩ ⟨H, L, A⟩ ⟨H, L, B⟩) W → Calls Try.prog 14 #[.slice (some ⟨gr, 0, none⟩) 3 3, .agg (Msg.cs ⟨⟨#[97]⟩, H, ⟨#[98]⟩, L, txt q⟩).toArray] W fun e w' => e = .returned (.tuple #[.agg (MRul.cs ⟨H, L, A⟩).toArray, .bool true]) ∧ Below W.heap.size W w' := fun W hW => by
    have h := prule_any (some ⟨gr, 0, none⟩) 3 [⟨L, H, otherT⟩, ⟨H, L, A⟩, ⟨H, L, B⟩] ⟨⟨#[97]⟩, H, ⟨#[98]⟩, L, txt q⟩ (by show 3 ≤ 1000000; decide) W (row_c27 hW)
    rw [hfr] at h
    exact h
  have ks : ∀ W, BlkL gr (c27 ⟨L, H, otherT⟩ ⟨H, L, A⟩ ⟨H, L, B⟩) W → Calls Try.prog 12 #[.slice (some ⟨gr, 0, none⟩) 3 3, .agg (Msg.cs ⟨⟨#[97]⟩, H, ⟨#[98]⟩, L, txt q⟩).toArray] W fun e w' => e = .returned (.tuple #[.int .i64 2, .int .i64 0]) ∧ Below W.heap.size W w' := fun W hW => by
    have h := psend_any (some ⟨gr, 0, none⟩) 3 [⟨L, H, otherT⟩, ⟨H, L, A⟩, ⟨H, L, B⟩] ⟨⟨#[97]⟩, H, ⟨#[98]⟩, L, txt q⟩ (by show 3 ≤ 1000000; decide) (by show (1 : Nat) ≤ _ ∧ (1 : Nat) ≤ _; decide) W (row_c27 hW)
    rw [hsn] at h
    exact h
  obtain ⟨M, hM⟩ : ∃ M, Msg.cs ⟨⟨#[97]⟩, H, ⟨#[98]⟩, L, txt q⟩ = M := ⟨_, rfl⟩
  simp only [hM] at kr ks
  rw [hM] at hmm
  have hlM : M.length = 11 := by rw [← hM]; rfl
  have hzM : (Try.prog.info? 26).map (·.size) = some M.length := by rw [hlM]; exact hszM
  obtain ⟨X, hX⟩ : ∃ X, MRul.cs ⟨H, L, A⟩ = X := ⟨_, rfl⟩
  simp only [hX] at kr
  have hlX : X.length = 9 := by rw [← hX]; rfl
  have hoX : ∀ v ∈ X, v.oneCell' = true := by rw [← hX]; exact mr_one _
  have hzX : (Try.prog.info? 29).map (·.size) = some X.length := by rw [hlX]; exact hsz9
  have hmr := hmm.range
  clear hsn
  go_wp2_with (first | (refine wpList_load_row rfl _ rfl gm rfl M hmr hundM rfl hzM ?_) | fail)
  refine (kr V9 hm9).mono ?_
  rintro e W10 ⟨rfl, hb10⟩
  have hm10 := stab_blk _ _ _ _ hm9 hb10
  have hmm10 := stab_blk _ _ _ _ hmm hb10
  have hB10 := Below.then hB9 hb10
  obtain ⟨W11, hW11, hth11, hx11, hb11⟩ := put_new W10 zR9 29 X (by rw [hlX]; rfl) (by rw [hlX]; decide)
  have hm11 := stab_blk _ _ _ _ hm10 hb11
  have hmm11 := stab_blk _ _ _ _ hmm10 hb11
  have hB11 := Below.then hB10 hb11
  have hmr11 := hmm11.range
  clear hm9 hmm hB9 hb10 hm10 hmm10 hb11 hmr
  go_upto_region 11 with (first | (refine wpList_store_row rfl _ _ rfl W10.heap.size rfl X rfl hth11 hzX hoX hW11 ?_) | fail)
  clear hth11 hW11 hB10
  generalize W10.heap.size = gx at *
  go_wp2_with (first | (refine wpList_load_row rfl _ rfl gm rfl M hmr11 hundM rfl hzM ?_) | fail)
  refine (ks W11 hm11).mono ?_
  rintro e W12 ⟨rfl, hb12⟩
  have hm12 := stab_blk _ _ _ _ hm11 hb12
  have hmm12 := stab_blk _ _ _ _ hmm11 hb12
  have hx12 := stab_blk _ _ _ _ hx11 hb12
  have hB12 := Below.then hB11 hb12
  clear hm11 hmm11 hx11 hB11 hb12 hmr11 kr ks
  have keq : ∀ W, (binOp .eql 29 (.agg X.toArray) (.agg X.toArray)).run Try.prog W = .ok (.bool true) W := fun W => by rw [← hX]; exact run_eq_rule _ W
  have y10 := (hmm12.1 10 (.string (txt q)) (by rw [← hM]; rfl)).1
  have yA := (hm12.1 17 (.string A) rfl).1
  have hE := first_stands first q (by omega)
  have hA2 : A.size = 3 := by rw [← hA.out]; cases first <;> rfl
  replace hE : standsB (txt q) A ((txt q).size + 1) 0 = eqs (txt q) A := by rw [← hA.out]; exact hE
  have krl0 : ∀ W, LenV W → BlkL gr (c27 ⟨L, H, otherT⟩ ⟨H, L, A⟩ ⟨H, L, B⟩) W → Calls Try.prog 16 #[.slice (some ⟨gr, 0, none⟩) 3 3, .agg M.toArray] W fun e w' => e = .returned (.int .i64 (if eqs (txt q) A = true then 6 else 0)) ∧ Below W.heap.size W w' := fun W hVW hW => by
    have h := prelease_any (some ⟨gr, 0, none⟩) 3 [⟨L, H, otherT⟩, ⟨H, L, A⟩, ⟨H, L, B⟩] ⟨⟨#[97]⟩, H, ⟨#[98]⟩, L, txt q⟩ (by show 3 ≤ 1000000; decide) W (fun x hx => ⟨by show (txt q).size < _; omega, hVW⟩) (row_c27 hW)
    unfold relE at h
    rw [hfr, hM] at h
    replace h : Calls Try.prog 16 #[.slice (some ⟨gr, 0, none⟩) 3 3, .agg M.toArray] W fun e w' => e = .returned (.int .i64 (if standsB (txt q) A ((txt q).size + 1) 0 = true then 6 else 0)) ∧ Below W.heap.size W w' := h
    rw [hE] at h
    exact h
  obtain ⟨T, hT⟩ : ∃ T, txt q = T := ⟨_, rfl⟩
  rw [hT] at y10
  simp only [hT] at krl0
  go_upto_region 13 with fail
  obtain ⟨Y, hY⟩ : ∃ Y, W12 = Y := ⟨_, rfl⟩
  rw [hY] at y10 yA hm12 hmm12 hx12 hB12 ⊢
  clear hY hE hfr hts hT
  have hS0 : Below Y.heap.size Y Y.drew := (Below.refl _ _).drew
  have hm14 := stab_blk _ _ _ _ hm12 hS0
  have hmm14 := stab_blk _ _ _ _ hmm12 hS0
  have hx14 := stab_blk _ _ _ _ hx12 hS0
  have hB14 := Below.then hB12 hS0
  have hc9 : CellsAt Y.drew ⟨gr, 9, none⟩ X := by rw [← hX]; exact c27_at9 hm14
  clear hm12 hmm12 hx12 hB12 hA hX hM
  cases hc : eqs T A
  · have f0 : (T.toList == A.toList) = false := hc
    have krl : ∀ W, LenV W → BlkL gr (c27 ⟨L, H, otherT⟩ ⟨H, L, A⟩ ⟨H, L, B⟩) W → Calls Try.prog 16 #[.slice (some ⟨gr, 0, none⟩) 3 3, .agg M.toArray] W fun e w' => e = .returned (.int .i64 0) ∧ Below W.heap.size W w' := fun W hVW hW => by have := krl0 W hVW hW; rw [hc] at this; exact this
    clear krl0
    refine wp_region_held_drew (S := (fun W => Below Y.heap.size Y W)) (by kernel_rfl) (by exact hS0) ?_
    intro hHeld
    first | (refine wpAnyH_take (i := 0) (v := ?_) (by simp only [List.getElem?_toArray, List.getElem?_cons_zero, List.getElem?_cons_succ]; rfl) (by kernel_rfl) (by kernel_rfl) (by kernel_rfl) (by exact fun _ _ _ h => h) (Or.inl ⟨by rfl, ?_⟩) (by assumption) ?_; rotate_left; (focus (intro w hSw; (try dsimp only at hSw); go_simp; try with_reducible rfl)); simp only [Act.put, List.setIfInBounds_toArray, List.set_cons_zero, List.set_cons_succ]) | (refine wpAnyH_take (i := 0) (v := undef) (by simp only [List.getElem?_toArray, List.getElem?_cons_zero, List.getElem?_cons_succ]; rfl) (by kernel_rfl) (by kernel_rfl) (by kernel_rfl) (by exact fun _ _ _ h => h) (Or.inr ⟨by rfl, rfl⟩) (by assumption) ?_; simp only [Act.put, List.setIfInBounds_toArray, List.set_cons_zero, List.set_cons_succ]) | fail
    first | (refine wpAnyH_take (i := 1) (v := _) (by simp only [List.getElem?_toArray, List.getElem?_cons_zero, List.getElem?_cons_succ]; rfl) (by kernel_rfl) (by kernel_rfl) (by kernel_rfl) (by exact fun _ _ _ h => h) (yields_cellM (by rfl) _ rfl ⟨gm, 10, none⟩ rfl (.string T) (fun _ s => (s.cell (World.block_lt_of_cell? _ _ y10)).trans y10) strM_load) (by assumption) ?_; simp only [Act.put, List.setIfInBounds_toArray, List.set_cons_zero, List.set_cons_succ]) | (refine wpAnyH_take (i := 1) (v := undef) (by simp only [List.getElem?_toArray, List.getElem?_cons_zero, List.getElem?_cons_succ]; rfl) (by kernel_rfl) (by kernel_rfl) (by kernel_rfl) (by exact fun _ _ _ h => h) (Or.inr ⟨by rfl, rfl⟩) (by assumption) ?_; simp only [Act.put, List.setIfInBounds_toArray, List.set_cons_zero, List.set_cons_succ]) | fail
    first | (refine wpAnyH_take (i := 2) (v := ?_) (by simp only [List.getElem?_toArray, List.getElem?_cons_zero, List.getElem?_cons_succ]; rfl) (by kernel_rfl) (by kernel_rfl) (by kernel_rfl) (by exact fun _ _ _ h => h) (Or.inl ⟨by rfl, ?_⟩) (by assumption) ?_; rotate_left; (focus (intro w hSw; (try dsimp only at hSw); go_simp; try with_reducible rfl)); simp only [Act.put, List.setIfInBounds_toArray, List.set_cons_zero, List.set_cons_succ]) | (refine wpAnyH_take (i := 2) (v := undef) (by simp only [List.getElem?_toArray, List.getElem?_cons_zero, List.getElem?_cons_succ]; rfl) (by kernel_rfl) (by kernel_rfl) (by kernel_rfl) (by exact fun _ _ _ h => h) (Or.inr ⟨by rfl, rfl⟩) (by assumption) ?_; simp only [Act.put, List.setIfInBounds_toArray, List.set_cons_zero, List.set_cons_succ]) | fail
    first | (refine wpAnyH_take (i := 3) (v := ?_) (by simp only [List.getElem?_toArray, List.getElem?_cons_zero, List.getElem?_cons_succ]; rfl) (by kernel_rfl) (by kernel_rfl) (by kernel_rfl) (by exact fun _ _ _ h => h) (Or.inl ⟨by rfl, ?_⟩) (by assumption) ?_; rotate_left; (focus (intro w hSw; (try dsimp only at hSw); go_simp; try with_reducible rfl)); simp only [Act.put, List.setIfInBounds_toArray, List.set_cons_zero, List.set_cons_succ]) | (refine wpAnyH_take (i := 3) (v := undef) (by simp only [List.getElem?_toArray, List.getElem?_cons_zero, List.getElem?_cons_succ]; rfl) (by kernel_rfl) (by kernel_rfl) (by kernel_rfl) (by exact fun _ _ _ h => h) (Or.inr ⟨by rfl, rfl⟩) (by assumption) ?_; simp only [Act.put, List.setIfInBounds_toArray, List.set_cons_zero, List.set_cons_succ]) | fail
    first | (refine wpAnyH_take (i := 4) (v := ?_) (by simp only [List.getElem?_toArray, List.getElem?_cons_zero, List.getElem?_cons_succ]; rfl) (by kernel_rfl) (by kernel_rfl) (by kernel_rfl) (by exact fun _ _ _ h => h) (Or.inl ⟨by rfl, ?_⟩) (by assumption) ?_; rotate_left; (focus (intro w hSw; (try dsimp only at hSw); go_simp; try with_reducible rfl)); simp only [Act.put, List.setIfInBounds_toArray, List.set_cons_zero, List.set_cons_succ]) | (refine wpAnyH_take (i := 4) (v := undef) (by simp only [List.getElem?_toArray, List.getElem?_cons_zero, List.getElem?_cons_succ]; rfl) (by kernel_rfl) (by kernel_rfl) (by kernel_rfl) (by exact fun _ _ _ h => h) (Or.inr ⟨by rfl, rfl⟩) (by assumption) ?_; simp only [Act.put, List.setIfInBounds_toArray, List.set_cons_zero, List.set_cons_succ]) | fail
    first | (refine wpAnyH_take (i := 5) (v := _) (by simp only [List.getElem?_toArray, List.getElem?_cons_zero, List.getElem?_cons_succ]; rfl) (by kernel_rfl) (by kernel_rfl) (by kernel_rfl) (by exact fun _ _ _ h => h) (yields_cellM (by rfl) _ rfl ⟨gr, 17, none⟩ rfl (.string A) (fun _ s => (s.cell (World.block_lt_of_cell? _ _ yA)).trans yA) strM_load) (by assumption) ?_; simp only [Act.put, List.setIfInBounds_toArray, List.set_cons_zero, List.set_cons_succ]) | (refine wpAnyH_take (i := 5) (v := undef) (by simp only [List.getElem?_toArray, List.getElem?_cons_zero, List.getElem?_cons_succ]; rfl) (by kernel_rfl) (by kernel_rfl) (by kernel_rfl) (by exact fun _ _ _ h => h) (Or.inr ⟨by rfl, rfl⟩) (by assumption) ?_; simp only [Act.put, List.setIfInBounds_toArray, List.set_cons_zero, List.set_cons_succ]) | fail
    first | (refine wpAnyH_take (i := 6) (v := ?_) (by simp only [List.getElem?_toArray, List.getElem?_cons_zero, List.getElem?_cons_succ]; rfl) (by kernel_rfl) (by kernel_rfl) (by kernel_rfl) (by exact fun _ _ _ h => h) (Or.inl ⟨by rfl, ?_⟩) (by assumption) ?_; rotate_left; (focus (intro w hSw; (try dsimp only at hSw); go_simp; try with_reducible rfl)); simp only [Act.put, List.setIfInBounds_toArray, List.set_cons_zero, List.set_cons_succ]) | (refine wpAnyH_take (i := 6) (v := undef) (by simp only [List.getElem?_toArray, List.getElem?_cons_zero, List.getElem?_cons_succ]; rfl) (by kernel_rfl) (by kernel_rfl) (by kernel_rfl) (by exact fun _ _ _ h => h) (Or.inr ⟨by rfl, rfl⟩) (by assumption) ?_; simp only [Act.put, List.setIfInBounds_toArray, List.set_cons_zero, List.set_cons_succ]) | fail
    refine wpAnyH_done (by kernel_rfl) ?_ _
    clear hHeld y10 yA
    generalize Y.drew = Y2 at *
    go_upto_region 15 with fail
    have hS2 : Below Y2.heap.size Y2 Y2.drew := (Below.refl _ _).drew
    refine wp_region_held_drew (S := (fun W => Below Y2.heap.size Y2 W)) (by kernel_rfl) (by first | exact hS3 | exact hS2) ?_
    intro hHeld
    first | (refine wpAnyH_take (i := 0) (v := ?_) (by simp only [List.getElem?_toArray, List.getElem?_cons_zero, List.getElem?_cons_succ]; rfl) (by kernel_rfl) (by kernel_rfl) (by kernel_rfl) (by exact fun _ _ _ h => h) (Or.inl ⟨by rfl, ?_⟩) (by assumption) ?_; rotate_left; (focus (intro w hSw; (try dsimp only at hSw); go_simp; try with_reducible rfl)); simp only [Act.put, List.setIfInBounds_toArray, List.set_cons_zero, List.set_cons_succ]) | (refine wpAnyH_take (i := 0) (v := undef) (by simp only [List.getElem?_toArray, List.getElem?_cons_zero, List.getElem?_cons_succ]; rfl) (by kernel_rfl) (by kernel_rfl) (by kernel_rfl) (by exact fun _ _ _ h => h) (Or.inr ⟨by rfl, rfl⟩) (by assumption) ?_; simp only [Act.put, List.setIfInBounds_toArray, List.set_cons_zero, List.set_cons_succ]) | fail
    first | (refine wpAnyH_take (i := 1) (v := ?_) (by simp only [List.getElem?_toArray, List.getElem?_cons_zero, List.getElem?_cons_succ]; rfl) (by kernel_rfl) (by kernel_rfl) (by kernel_rfl) (by exact fun _ _ _ h => h) (Or.inl ⟨by rfl, ?_⟩) (by assumption) ?_; rotate_left; (focus (intro w hSw; (try dsimp only at hSw); go_simp; try with_reducible rfl)); simp only [Act.put, List.setIfInBounds_toArray, List.set_cons_zero, List.set_cons_succ]) | (refine wpAnyH_take (i := 1) (v := undef) (by simp only [List.getElem?_toArray, List.getElem?_cons_zero, List.getElem?_cons_succ]; rfl) (by kernel_rfl) (by kernel_rfl) (by kernel_rfl) (by exact fun _ _ _ h => h) (Or.inr ⟨by rfl, rfl⟩) (by assumption) ?_; simp only [Act.put, List.setIfInBounds_toArray, List.set_cons_zero, List.set_cons_succ]) | fail
    first | (refine wpAnyH_take (i := 2) (v := _) (by simp only [List.getElem?_toArray, List.getElem?_cons_zero, List.getElem?_cons_succ]; rfl) (by kernel_rfl) (by kernel_rfl) (by kernel_rfl) (by exact fun _ _ _ h => h) (yields_row (by rfl) _ rfl gx rfl X (fun _ s => BlkL.range (stab_blk _ _ _ _ hx14 s)) hundR rfl hzX) (by assumption) ?_; simp only [Act.put, List.setIfInBounds_toArray, List.set_cons_zero, List.set_cons_succ]) | (refine wpAnyH_take (i := 2) (v := undef) (by simp only [List.getElem?_toArray, List.getElem?_cons_zero, List.getElem?_cons_succ]; rfl) (by kernel_rfl) (by kernel_rfl) (by kernel_rfl) (by exact fun _ _ _ h => h) (Or.inr ⟨by rfl, rfl⟩) (by assumption) ?_; simp only [Act.put, List.setIfInBounds_toArray, List.set_cons_zero, List.set_cons_succ]) | fail
    first | (refine wpAnyH_take (i := 3) (v := ?_) (by simp only [List.getElem?_toArray, List.getElem?_cons_zero, List.getElem?_cons_succ]; rfl) (by kernel_rfl) (by kernel_rfl) (by kernel_rfl) (by exact fun _ _ _ h => h) (Or.inl ⟨by rfl, ?_⟩) (by assumption) ?_; rotate_left; (focus (intro w hSw; (try dsimp only at hSw); go_simp; try with_reducible rfl)); simp only [Act.put, List.setIfInBounds_toArray, List.set_cons_zero, List.set_cons_succ]) | (refine wpAnyH_take (i := 3) (v := undef) (by simp only [List.getElem?_toArray, List.getElem?_cons_zero, List.getElem?_cons_succ]; rfl) (by kernel_rfl) (by kernel_rfl) (by kernel_rfl) (by exact fun _ _ _ h => h) (Or.inr ⟨by rfl, rfl⟩) (by assumption) ?_; simp only [Act.put, List.setIfInBounds_toArray, List.set_cons_zero, List.set_cons_succ]) | fail
    first | (refine wpAnyH_take (i := 4) (v := ?_) (by simp only [List.getElem?_toArray, List.getElem?_cons_zero, List.getElem?_cons_succ]; rfl) (by kernel_rfl) (by kernel_rfl) (by kernel_rfl) (by exact fun _ _ _ h => h) (Or.inl ⟨by rfl, ?_⟩) (by assumption) ?_; rotate_left; (focus (intro w hSw; (try dsimp only at hSw); go_simp; try with_reducible rfl)); simp only [Act.put, List.setIfInBounds_toArray, List.set_cons_zero, List.set_cons_succ]) | (refine wpAnyH_take (i := 4) (v := undef) (by simp only [List.getElem?_toArray, List.getElem?_cons_zero, List.getElem?_cons_succ]; rfl) (by kernel_rfl) (by kernel_rfl) (by kernel_rfl) (by exact fun _ _ _ h => h) (Or.inr ⟨by rfl, rfl⟩) (by assumption) ?_; simp only [Act.put, List.setIfInBounds_toArray, List.set_cons_zero, List.set_cons_succ]) | fail
    first | (refine wpAnyH_take (i := 5) (v := _) (by simp only [List.getElem?_toArray, List.getElem?_cons_zero, List.getElem?_cons_succ]; rfl) (by kernel_rfl) (by kernel_rfl) (by kernel_rfl) (by exact fun _ _ _ h => h) (yields_at (by rfl) _ rfl ⟨gr, 9, none⟩ rfl X (fun _ s => CellsAt.below hc9 s) hundR rfl hzX) (by assumption) ?_; simp only [Act.put, List.setIfInBounds_toArray, List.set_cons_zero, List.set_cons_succ]) | (refine wpAnyH_take (i := 5) (v := undef) (by simp only [List.getElem?_toArray, List.getElem?_cons_zero, List.getElem?_cons_succ]; rfl) (by kernel_rfl) (by kernel_rfl) (by kernel_rfl) (by exact fun _ _ _ h => h) (Or.inr ⟨by rfl, rfl⟩) (by assumption) ?_; simp only [Act.put, List.setIfInBounds_toArray, List.set_cons_zero, List.set_cons_succ]) | fail
    first | (refine wpAnyH_take (i := 6) (v := ?_) (by simp only [List.getElem?_toArray, List.getElem?_cons_zero, List.getElem?_cons_succ]; rfl) (by kernel_rfl) (by kernel_rfl) (by kernel_rfl) (by exact fun _ _ _ h => h) (Or.inl ⟨by rfl, ?_⟩) (by assumption) ?_; rotate_left; (focus (intro w hSw; (try dsimp only at hSw); go_simp; try with_reducible rfl)); simp only [Act.put, List.setIfInBounds_toArray, List.set_cons_zero, List.set_cons_succ]) | (refine wpAnyH_take (i := 6) (v := undef) (by simp only [List.getElem?_toArray, List.getElem?_cons_zero, List.getElem?_cons_succ]; rfl) (by kernel_rfl) (by kernel_rfl) (by kernel_rfl) (by exact fun _ _ _ h => h) (Or.inr ⟨by rfl, rfl⟩) (by assumption) ?_; simp only [Act.put, List.setIfInBounds_toArray, List.set_cons_zero, List.set_cons_succ]) | fail
    first | (refine wpAnyH_take (i := 7) (v := ?_) (by simp only [List.getElem?_toArray, List.getElem?_cons_zero, List.getElem?_cons_succ]; rfl) (by kernel_rfl) (by kernel_rfl) (by kernel_rfl) (by exact fun _ _ _ h => h) (Or.inl ⟨by rfl, ?_⟩) (by assumption) ?_; rotate_left; (focus (intro w hSw; (try dsimp only at hSw); go_simp; try with_reducible rfl)); simp only [Act.put, List.setIfInBounds_toArray, List.set_cons_zero, List.set_cons_succ]) | (refine wpAnyH_take (i := 7) (v := undef) (by simp only [List.getElem?_toArray, List.getElem?_cons_zero, List.getElem?_cons_succ]; rfl) (by kernel_rfl) (by kernel_rfl) (by kernel_rfl) (by exact fun _ _ _ h => h) (Or.inr ⟨by rfl, rfl⟩) (by assumption) ?_; simp only [Act.put, List.setIfInBounds_toArray, List.set_cons_zero, List.set_cons_succ]) | fail
    first | (refine wpAnyH_take (i := 8) (v := ?_) (by simp only [List.getElem?_toArray, List.getElem?_cons_zero, List.getElem?_cons_succ]; rfl) (by kernel_rfl) (by kernel_rfl) (by kernel_rfl) (by exact fun _ _ _ h => h) (Or.inl ⟨by rfl, ?_⟩) (by assumption) ?_; rotate_left; (focus (intro w hSw; (try dsimp only at hSw); go_simp; try with_reducible rfl)); simp only [Act.put, List.setIfInBounds_toArray, List.set_cons_zero, List.set_cons_succ]) | (refine wpAnyH_take (i := 8) (v := undef) (by simp only [List.getElem?_toArray, List.getElem?_cons_zero, List.getElem?_cons_succ]; rfl) (by kernel_rfl) (by kernel_rfl) (by kernel_rfl) (by exact fun _ _ _ h => h) (Or.inr ⟨by rfl, rfl⟩) (by assumption) ?_; simp only [Act.put, List.setIfInBounds_toArray, List.set_cons_zero, List.set_cons_succ]) | fail
    first | (refine wpAnyH_take (i := 9) (v := ?_) (by simp only [List.getElem?_toArray, List.getElem?_cons_zero, List.getElem?_cons_succ]; rfl) (by kernel_rfl) (by kernel_rfl) (by kernel_rfl) (by exact fun _ _ _ h => h) (Or.inl ⟨by rfl, ?_⟩) (by assumption) ?_; rotate_left; (focus (intro w hSw; (try dsimp only at hSw); go_simp; try with_reducible rfl)); simp only [Act.put, List.setIfInBounds_toArray, List.set_cons_zero, List.set_cons_succ]) | (refine wpAnyH_take (i := 9) (v := undef) (by simp only [List.getElem?_toArray, List.getElem?_cons_zero, List.getElem?_cons_succ]; rfl) (by kernel_rfl) (by kernel_rfl) (by kernel_rfl) (by exact fun _ _ _ h => h) (Or.inr ⟨by rfl, rfl⟩) (by assumption) ?_; simp only [Act.put, List.setIfInBounds_toArray, List.set_cons_zero, List.set_cons_succ]) | fail
    first | (refine wpAnyH_take (i := 10) (v := ?_) (by simp only [List.getElem?_toArray, List.getElem?_cons_zero, List.getElem?_cons_succ]; rfl) (by kernel_rfl) (by kernel_rfl) (by kernel_rfl) (by exact fun _ _ _ h => h) (Or.inl ⟨by rfl, ?_⟩) (by assumption) ?_; rotate_left; (focus (intro w hSw; (try dsimp only at hSw); go_simp; try with_reducible rfl)); simp only [Act.put, List.setIfInBounds_toArray, List.set_cons_zero, List.set_cons_succ]) | (refine wpAnyH_take (i := 10) (v := undef) (by simp only [List.getElem?_toArray, List.getElem?_cons_zero, List.getElem?_cons_succ]; rfl) (by kernel_rfl) (by kernel_rfl) (by kernel_rfl) (by exact fun _ _ _ h => h) (Or.inr ⟨by rfl, rfl⟩) (by assumption) ?_; simp only [Act.put, List.setIfInBounds_toArray, List.set_cons_zero, List.set_cons_succ]) | fail
    first | (refine wpAnyH_take (i := 11) (v := ?_) (by simp only [List.getElem?_toArray, List.getElem?_cons_zero, List.getElem?_cons_succ]; rfl) (by kernel_rfl) (by kernel_rfl) (by kernel_rfl) (by exact fun _ _ _ h => h) (Or.inl ⟨by rfl, ?_⟩) (by assumption) ?_; rotate_left; (focus (intro w hSw; (try dsimp only at hSw); go_simp; try with_reducible rfl)); simp only [Act.put, List.setIfInBounds_toArray, List.set_cons_zero, List.set_cons_succ]) | (refine wpAnyH_take (i := 11) (v := undef) (by simp only [List.getElem?_toArray, List.getElem?_cons_zero, List.getElem?_cons_succ]; rfl) (by kernel_rfl) (by kernel_rfl) (by kernel_rfl) (by exact fun _ _ _ h => h) (Or.inr ⟨by rfl, rfl⟩) (by assumption) ?_; simp only [Act.put, List.setIfInBounds_toArray, List.set_cons_zero, List.set_cons_succ]) | fail
    first | (refine wpAnyH_take (i := 12) (v := ?_) (by simp only [List.getElem?_toArray, List.getElem?_cons_zero, List.getElem?_cons_succ]; rfl) (by kernel_rfl) (by kernel_rfl) (by kernel_rfl) (by exact fun _ _ _ h => h) (Or.inl ⟨by rfl, ?_⟩) (by assumption) ?_; rotate_left; (focus (intro w hSw; (try dsimp only at hSw); go_simp; try with_reducible rfl)); simp only [Act.put, List.setIfInBounds_toArray, List.set_cons_zero, List.set_cons_succ]) | (refine wpAnyH_take (i := 12) (v := undef) (by simp only [List.getElem?_toArray, List.getElem?_cons_zero, List.getElem?_cons_succ]; rfl) (by kernel_rfl) (by kernel_rfl) (by kernel_rfl) (by exact fun _ _ _ h => h) (Or.inr ⟨by rfl, rfl⟩) (by assumption) ?_; simp only [Act.put, List.setIfInBounds_toArray, List.set_cons_zero, List.set_cons_succ]) | fail
    first | (refine wpAnyH_take (i := 13) (v := ?_) (by simp only [List.getElem?_toArray, List.getElem?_cons_zero, List.getElem?_cons_succ]; rfl) (by kernel_rfl) (by kernel_rfl) (by kernel_rfl) (by exact fun _ _ _ h => h) (Or.inl ⟨by rfl, ?_⟩) (by assumption) ?_; rotate_left; (focus (intro w hSw; (try dsimp only at hSw); go_simp; try with_reducible rfl)); simp only [Act.put, List.setIfInBounds_toArray, List.set_cons_zero, List.set_cons_succ]) | (refine wpAnyH_take (i := 13) (v := undef) (by simp only [List.getElem?_toArray, List.getElem?_cons_zero, List.getElem?_cons_succ]; rfl) (by kernel_rfl) (by kernel_rfl) (by kernel_rfl) (by exact fun _ _ _ h => h) (Or.inr ⟨by rfl, rfl⟩) (by assumption) ?_; simp only [Act.put, List.setIfInBounds_toArray, List.set_cons_zero, List.set_cons_succ]) | fail
    first | (refine wpAnyH_take (i := 14) (v := ?_) (by simp only [List.getElem?_toArray, List.getElem?_cons_zero, List.getElem?_cons_succ]; rfl) (by kernel_rfl) (by kernel_rfl) (by kernel_rfl) (by exact fun _ _ _ h => h) (Or.inl ⟨by rfl, ?_⟩) (by assumption) ?_; rotate_left; (focus (intro w hSw; (try dsimp only at hSw); go_simp; try with_reducible rfl)); simp only [Act.put, List.setIfInBounds_toArray, List.set_cons_zero, List.set_cons_succ]) | (refine wpAnyH_take (i := 14) (v := undef) (by simp only [List.getElem?_toArray, List.getElem?_cons_zero, List.getElem?_cons_succ]; rfl) (by kernel_rfl) (by kernel_rfl) (by kernel_rfl) (by exact fun _ _ _ h => h) (Or.inr ⟨by rfl, rfl⟩) (by assumption) ?_; simp only [Act.put, List.setIfInBounds_toArray, List.set_cons_zero, List.set_cons_succ]) | fail
    first | (refine wpAnyH_take (i := 15) (v := ?_) (by simp only [List.getElem?_toArray, List.getElem?_cons_zero, List.getElem?_cons_succ]; rfl) (by kernel_rfl) (by kernel_rfl) (by kernel_rfl) (by exact fun _ _ _ h => h) (Or.inl ⟨by rfl, ?_⟩) (by assumption) ?_; rotate_left; (focus (intro w hSw; (try dsimp only at hSw); go_simp; try with_reducible rfl)); simp only [Act.put, List.setIfInBounds_toArray, List.set_cons_zero, List.set_cons_succ]) | (refine wpAnyH_take (i := 15) (v := undef) (by simp only [List.getElem?_toArray, List.getElem?_cons_zero, List.getElem?_cons_succ]; rfl) (by kernel_rfl) (by kernel_rfl) (by kernel_rfl) (by exact fun _ _ _ h => h) (Or.inr ⟨by rfl, rfl⟩) (by assumption) ?_; simp only [Act.put, List.setIfInBounds_toArray, List.set_cons_zero, List.set_cons_succ]) | fail
    first | (refine wpAnyH_take (i := 16) (v := ?_) (by simp only [List.getElem?_toArray, List.getElem?_cons_zero, List.getElem?_cons_succ]; rfl) (by kernel_rfl) (by kernel_rfl) (by kernel_rfl) (by exact fun _ _ _ h => h) (Or.inl ⟨by rfl, ?_⟩) (by assumption) ?_; rotate_left; (focus (intro w hSw; (try dsimp only at hSw); go_simp; try with_reducible rfl)); simp only [Act.put, List.setIfInBounds_toArray, List.set_cons_zero, List.set_cons_succ]) | (refine wpAnyH_take (i := 16) (v := undef) (by simp only [List.getElem?_toArray, List.getElem?_cons_zero, List.getElem?_cons_succ]; rfl) (by kernel_rfl) (by kernel_rfl) (by kernel_rfl) (by exact fun _ _ _ h => h) (Or.inr ⟨by rfl, rfl⟩) (by assumption) ?_; simp only [Act.put, List.setIfInBounds_toArray, List.set_cons_zero, List.set_cons_succ]) | fail
    first | (refine wpAnyH_take (i := 17) (v := ?_) (by simp only [List.getElem?_toArray, List.getElem?_cons_zero, List.getElem?_cons_succ]; rfl) (by kernel_rfl) (by kernel_rfl) (by kernel_rfl) (by exact fun _ _ _ h => h) (Or.inl ⟨by rfl, ?_⟩) (by assumption) ?_; rotate_left; (focus (intro w hSw; (try dsimp only at hSw); go_simp; try with_reducible rfl)); simp only [Act.put, List.setIfInBounds_toArray, List.set_cons_zero, List.set_cons_succ]) | (refine wpAnyH_take (i := 17) (v := undef) (by simp only [List.getElem?_toArray, List.getElem?_cons_zero, List.getElem?_cons_succ]; rfl) (by kernel_rfl) (by kernel_rfl) (by kernel_rfl) (by exact fun _ _ _ h => h) (Or.inr ⟨by rfl, rfl⟩) (by assumption) ?_; simp only [Act.put, List.setIfInBounds_toArray, List.set_cons_zero, List.set_cons_succ]) | fail
    first | (refine wpAnyH_take (i := 18) (v := _) (by simp only [List.getElem?_toArray, List.getElem?_cons_zero, List.getElem?_cons_succ]; rfl) (by kernel_rfl) (by kernel_rfl) (by kernel_rfl) (by exact fun _ _ _ h => h) (yields_row (by rfl) _ rfl gm rfl M (fun _ s => BlkL.range (stab_blk _ _ _ _ hmm14 s)) hundM rfl hzM) (by assumption) ?_; simp only [Act.put, List.setIfInBounds_toArray, List.set_cons_zero, List.set_cons_succ]) | (refine wpAnyH_take (i := 18) (v := undef) (by simp only [List.getElem?_toArray, List.getElem?_cons_zero, List.getElem?_cons_succ]; rfl) (by kernel_rfl) (by kernel_rfl) (by kernel_rfl) (by exact fun _ _ _ h => h) (Or.inr ⟨by rfl, rfl⟩) (by assumption) ?_; simp only [Act.put, List.setIfInBounds_toArray, List.set_cons_zero, List.set_cons_succ]) | fail
    first | (refine wpAnyH_take (i := 20) (v := ?_) (by simp only [List.getElem?_toArray, List.getElem?_cons_zero, List.getElem?_cons_succ]; rfl) (by kernel_rfl) (by kernel_rfl) (by kernel_rfl) (by exact fun _ _ _ h => h) (Or.inl ⟨by rfl, ?_⟩) (by assumption) ?_; rotate_left; (focus (intro w hSw; (try dsimp only at hSw); go_simp; try with_reducible rfl)); simp only [Act.put, List.setIfInBounds_toArray, List.set_cons_zero, List.set_cons_succ]) | (refine wpAnyH_take (i := 20) (v := undef) (by simp only [List.getElem?_toArray, List.getElem?_cons_zero, List.getElem?_cons_succ]; rfl) (by kernel_rfl) (by kernel_rfl) (by kernel_rfl) (by exact fun _ _ _ h => h) (Or.inr ⟨by rfl, rfl⟩) (by assumption) ?_; simp only [Act.put, List.setIfInBounds_toArray, List.set_cons_zero, List.set_cons_succ]) | fail
    first | (refine wpAnyH_take (i := 19) (v := undef) (by simp only [List.getElem?_toArray, List.getElem?_cons_zero, List.getElem?_cons_succ]; rfl) (by kernel_rfl) (by kernel_rfl) (by kernel_rfl) (by exact fun _ _ _ h => h) (Or.inr ⟨by rfl, rfl⟩) (by assumption) ?_; simp only [Act.put, List.setIfInBounds_toArray, List.set_cons_zero, List.set_cons_succ]) | (refine wpAnyH_ready (rs := [19]) (by kernel_rfl) (by simp) ?_; refine AllReadyH.cons (by simp only [List.getElem?_toArray, List.getElem?_cons_zero, List.getElem?_cons_succ]; rfl) (fun K hK => ?_) AllReadyH.nil; go_simp; (first | (refine (krl _ (hLen.below (Below.then hB14 hHeld)) (stab_blk _ _ _ _ hm14 hHeld)).mono ?_; rintro e w' ⟨rfl, hb⟩; have hS3 := Below.then hHeld hb)); refine hK.out _ _ (by first | exact hS3 | exact hS2) ?_; clear hHeld hK; intro hHeld; (try simp only [Act.put, List.setIfInBounds_toArray, List.set_cons_zero, List.set_cons_succ])) | fail
    first | (refine wpAnyH_take (i := 21) (v := ?_) (by simp only [List.getElem?_toArray, List.getElem?_cons_zero, List.getElem?_cons_succ]; rfl) (by kernel_rfl) (by kernel_rfl) (by kernel_rfl) (by exact fun _ _ _ h => h) (Or.inl ⟨by rfl, ?_⟩) (by assumption) ?_; rotate_left; (focus (intro w hSw; (try dsimp only at hSw); go_simp; try with_reducible rfl)); simp only [Act.put, List.setIfInBounds_toArray, List.set_cons_zero, List.set_cons_succ]) | (refine wpAnyH_take (i := 21) (v := undef) (by simp only [List.getElem?_toArray, List.getElem?_cons_zero, List.getElem?_cons_succ]; rfl) (by kernel_rfl) (by kernel_rfl) (by kernel_rfl) (by exact fun _ _ _ h => h) (Or.inr ⟨by rfl, rfl⟩) (by assumption) ?_; simp only [Act.put, List.setIfInBounds_toArray, List.set_cons_zero, List.set_cons_succ]) | fail
    first | (refine wpAnyH_take (i := 22) (v := ?_) (by simp only [List.getElem?_toArray, List.getElem?_cons_zero, List.getElem?_cons_succ]; rfl) (by kernel_rfl) (by kernel_rfl) (by kernel_rfl) (by exact fun _ _ _ h => h) (Or.inl ⟨by rfl, ?_⟩) (by assumption) ?_; rotate_left; (focus (intro w hSw; (try dsimp only at hSw); go_simp; try with_reducible rfl)); simp only [Act.put, List.setIfInBounds_toArray, List.set_cons_zero, List.set_cons_succ]) | (refine wpAnyH_take (i := 22) (v := undef) (by simp only [List.getElem?_toArray, List.getElem?_cons_zero, List.getElem?_cons_succ]; rfl) (by kernel_rfl) (by kernel_rfl) (by kernel_rfl) (by exact fun _ _ _ h => h) (Or.inr ⟨by rfl, rfl⟩) (by assumption) ?_; simp only [Act.put, List.setIfInBounds_toArray, List.set_cons_zero, List.set_cons_succ]) | fail
    first | (refine wpAnyH_take (i := 23) (v := ?_) (by simp only [List.getElem?_toArray, List.getElem?_cons_zero, List.getElem?_cons_succ]; rfl) (by kernel_rfl) (by kernel_rfl) (by kernel_rfl) (by exact fun _ _ _ h => h) (Or.inl ⟨by rfl, ?_⟩) (by assumption) ?_; rotate_left; (focus (intro w hSw; (try dsimp only at hSw); go_simp; try with_reducible rfl)); simp only [Act.put, List.setIfInBounds_toArray, List.set_cons_zero, List.set_cons_succ]) | (refine wpAnyH_take (i := 23) (v := undef) (by simp only [List.getElem?_toArray, List.getElem?_cons_zero, List.getElem?_cons_succ]; rfl) (by kernel_rfl) (by kernel_rfl) (by kernel_rfl) (by exact fun _ _ _ h => h) (Or.inr ⟨by rfl, rfl⟩) (by assumption) ?_; simp only [Act.put, List.setIfInBounds_toArray, List.set_cons_zero, List.set_cons_succ]) | fail
    refine wpAnyH_done (by kernel_rfl) ?_ _
    go_wp2_with fail
    go_ret
    exact ⟨rfl, Below.then hB14 hHeld⟩
  · have f0 : (T.toList == A.toList) = true := hc
    have krl : ∀ W, LenV W → BlkL gr (c27 ⟨L, H, otherT⟩ ⟨H, L, A⟩ ⟨H, L, B⟩) W → Calls Try.prog 16 #[.slice (some ⟨gr, 0, none⟩) 3 3, .agg M.toArray] W fun e w' => e = .returned (.int .i64 6) ∧ Below W.heap.size W w' := fun W hVW hW => by have := krl0 W hVW hW; rw [hc] at this; exact this
    clear krl0
    refine wp_region_held_drew (S := (fun W => Below Y.heap.size Y W)) (by kernel_rfl) (by exact hS0) ?_
    intro hHeld
    first | (refine wpAnyH_take (i := 0) (v := ?_) (by simp only [List.getElem?_toArray, List.getElem?_cons_zero, List.getElem?_cons_succ]; rfl) (by kernel_rfl) (by kernel_rfl) (by kernel_rfl) (by exact fun _ _ _ h => h) (Or.inl ⟨by rfl, ?_⟩) (by assumption) ?_; rotate_left; (focus (intro w hSw; (try dsimp only at hSw); go_simp; try with_reducible rfl)); simp only [Act.put, List.setIfInBounds_toArray, List.set_cons_zero, List.set_cons_succ]) | (refine wpAnyH_take (i := 0) (v := undef) (by simp only [List.getElem?_toArray, List.getElem?_cons_zero, List.getElem?_cons_succ]; rfl) (by kernel_rfl) (by kernel_rfl) (by kernel_rfl) (by exact fun _ _ _ h => h) (Or.inr ⟨by rfl, rfl⟩) (by assumption) ?_; simp only [Act.put, List.setIfInBounds_toArray, List.set_cons_zero, List.set_cons_succ]) | fail
    first | (refine wpAnyH_take (i := 1) (v := _) (by simp only [List.getElem?_toArray, List.getElem?_cons_zero, List.getElem?_cons_succ]; rfl) (by kernel_rfl) (by kernel_rfl) (by kernel_rfl) (by exact fun _ _ _ h => h) (yields_cellM (by rfl) _ rfl ⟨gm, 10, none⟩ rfl (.string T) (fun _ s => (s.cell (World.block_lt_of_cell? _ _ y10)).trans y10) strM_load) (by assumption) ?_; simp only [Act.put, List.setIfInBounds_toArray, List.set_cons_zero, List.set_cons_succ]) | (refine wpAnyH_take (i := 1) (v := undef) (by simp only [List.getElem?_toArray, List.getElem?_cons_zero, List.getElem?_cons_succ]; rfl) (by kernel_rfl) (by kernel_rfl) (by kernel_rfl) (by exact fun _ _ _ h => h) (Or.inr ⟨by rfl, rfl⟩) (by assumption) ?_; simp only [Act.put, List.setIfInBounds_toArray, List.set_cons_zero, List.set_cons_succ]) | fail
    first | (refine wpAnyH_take (i := 2) (v := ?_) (by simp only [List.getElem?_toArray, List.getElem?_cons_zero, List.getElem?_cons_succ]; rfl) (by kernel_rfl) (by kernel_rfl) (by kernel_rfl) (by exact fun _ _ _ h => h) (Or.inl ⟨by rfl, ?_⟩) (by assumption) ?_; rotate_left; (focus (intro w hSw; (try dsimp only at hSw); go_simp; try with_reducible rfl)); simp only [Act.put, List.setIfInBounds_toArray, List.set_cons_zero, List.set_cons_succ]) | (refine wpAnyH_take (i := 2) (v := undef) (by simp only [List.getElem?_toArray, List.getElem?_cons_zero, List.getElem?_cons_succ]; rfl) (by kernel_rfl) (by kernel_rfl) (by kernel_rfl) (by exact fun _ _ _ h => h) (Or.inr ⟨by rfl, rfl⟩) (by assumption) ?_; simp only [Act.put, List.setIfInBounds_toArray, List.set_cons_zero, List.set_cons_succ]) | fail
    first | (refine wpAnyH_take (i := 3) (v := ?_) (by simp only [List.getElem?_toArray, List.getElem?_cons_zero, List.getElem?_cons_succ]; rfl) (by kernel_rfl) (by kernel_rfl) (by kernel_rfl) (by exact fun _ _ _ h => h) (Or.inl ⟨by rfl, ?_⟩) (by assumption) ?_; rotate_left; (focus (intro w hSw; (try dsimp only at hSw); go_simp; try with_reducible rfl)); simp only [Act.put, List.setIfInBounds_toArray, List.set_cons_zero, List.set_cons_succ]) | (refine wpAnyH_take (i := 3) (v := undef) (by simp only [List.getElem?_toArray, List.getElem?_cons_zero, List.getElem?_cons_succ]; rfl) (by kernel_rfl) (by kernel_rfl) (by kernel_rfl) (by exact fun _ _ _ h => h) (Or.inr ⟨by rfl, rfl⟩) (by assumption) ?_; simp only [Act.put, List.setIfInBounds_toArray, List.set_cons_zero, List.set_cons_succ]) | fail
    first | (refine wpAnyH_take (i := 4) (v := ?_) (by simp only [List.getElem?_toArray, List.getElem?_cons_zero, List.getElem?_cons_succ]; rfl) (by kernel_rfl) (by kernel_rfl) (by kernel_rfl) (by exact fun _ _ _ h => h) (Or.inl ⟨by rfl, ?_⟩) (by assumption) ?_; rotate_left; (focus (intro w hSw; (try dsimp only at hSw); go_simp; try with_reducible rfl)); simp only [Act.put, List.setIfInBounds_toArray, List.set_cons_zero, List.set_cons_succ]) | (refine wpAnyH_take (i := 4) (v := undef) (by simp only [List.getElem?_toArray, List.getElem?_cons_zero, List.getElem?_cons_succ]; rfl) (by kernel_rfl) (by kernel_rfl) (by kernel_rfl) (by exact fun _ _ _ h => h) (Or.inr ⟨by rfl, rfl⟩) (by assumption) ?_; simp only [Act.put, List.setIfInBounds_toArray, List.set_cons_zero, List.set_cons_succ]) | fail
    first | (refine wpAnyH_take (i := 5) (v := _) (by simp only [List.getElem?_toArray, List.getElem?_cons_zero, List.getElem?_cons_succ]; rfl) (by kernel_rfl) (by kernel_rfl) (by kernel_rfl) (by exact fun _ _ _ h => h) (yields_cellM (by rfl) _ rfl ⟨gr, 17, none⟩ rfl (.string A) (fun _ s => (s.cell (World.block_lt_of_cell? _ _ yA)).trans yA) strM_load) (by assumption) ?_; simp only [Act.put, List.setIfInBounds_toArray, List.set_cons_zero, List.set_cons_succ]) | (refine wpAnyH_take (i := 5) (v := undef) (by simp only [List.getElem?_toArray, List.getElem?_cons_zero, List.getElem?_cons_succ]; rfl) (by kernel_rfl) (by kernel_rfl) (by kernel_rfl) (by exact fun _ _ _ h => h) (Or.inr ⟨by rfl, rfl⟩) (by assumption) ?_; simp only [Act.put, List.setIfInBounds_toArray, List.set_cons_zero, List.set_cons_succ]) | fail
    first | (refine wpAnyH_take (i := 6) (v := ?_) (by simp only [List.getElem?_toArray, List.getElem?_cons_zero, List.getElem?_cons_succ]; rfl) (by kernel_rfl) (by kernel_rfl) (by kernel_rfl) (by exact fun _ _ _ h => h) (Or.inl ⟨by rfl, ?_⟩) (by assumption) ?_; rotate_left; (focus (intro w hSw; (try dsimp only at hSw); go_simp; try with_reducible rfl)); simp only [Act.put, List.setIfInBounds_toArray, List.set_cons_zero, List.set_cons_succ]) | (refine wpAnyH_take (i := 6) (v := undef) (by simp only [List.getElem?_toArray, List.getElem?_cons_zero, List.getElem?_cons_succ]; rfl) (by kernel_rfl) (by kernel_rfl) (by kernel_rfl) (by exact fun _ _ _ h => h) (Or.inr ⟨by rfl, rfl⟩) (by assumption) ?_; simp only [Act.put, List.setIfInBounds_toArray, List.set_cons_zero, List.set_cons_succ]) | fail
    refine wpAnyH_done (by kernel_rfl) ?_ _
    clear hHeld y10 yA
    generalize Y.drew = Y2 at *
    go_upto_region 15 with fail
    have hS2 : Below Y2.heap.size Y2 Y2.drew := (Below.refl _ _).drew
    refine wp_region_held_drew (S := (fun W => Below Y2.heap.size Y2 W)) (by kernel_rfl) (by first | exact hS3 | exact hS2) ?_
    intro hHeld
    first | (refine wpAnyH_take (i := 0) (v := ?_) (by simp only [List.getElem?_toArray, List.getElem?_cons_zero, List.getElem?_cons_succ]; rfl) (by kernel_rfl) (by kernel_rfl) (by kernel_rfl) (by exact fun _ _ _ h => h) (Or.inl ⟨by rfl, ?_⟩) (by assumption) ?_; rotate_left; (focus (intro w hSw; (try dsimp only at hSw); go_simp; try with_reducible rfl)); simp only [Act.put, List.setIfInBounds_toArray, List.set_cons_zero, List.set_cons_succ]) | (refine wpAnyH_take (i := 0) (v := undef) (by simp only [List.getElem?_toArray, List.getElem?_cons_zero, List.getElem?_cons_succ]; rfl) (by kernel_rfl) (by kernel_rfl) (by kernel_rfl) (by exact fun _ _ _ h => h) (Or.inr ⟨by rfl, rfl⟩) (by assumption) ?_; simp only [Act.put, List.setIfInBounds_toArray, List.set_cons_zero, List.set_cons_succ]) | fail
    first | (refine wpAnyH_take (i := 1) (v := ?_) (by simp only [List.getElem?_toArray, List.getElem?_cons_zero, List.getElem?_cons_succ]; rfl) (by kernel_rfl) (by kernel_rfl) (by kernel_rfl) (by exact fun _ _ _ h => h) (Or.inl ⟨by rfl, ?_⟩) (by assumption) ?_; rotate_left; (focus (intro w hSw; (try dsimp only at hSw); go_simp; try with_reducible rfl)); simp only [Act.put, List.setIfInBounds_toArray, List.set_cons_zero, List.set_cons_succ]) | (refine wpAnyH_take (i := 1) (v := undef) (by simp only [List.getElem?_toArray, List.getElem?_cons_zero, List.getElem?_cons_succ]; rfl) (by kernel_rfl) (by kernel_rfl) (by kernel_rfl) (by exact fun _ _ _ h => h) (Or.inr ⟨by rfl, rfl⟩) (by assumption) ?_; simp only [Act.put, List.setIfInBounds_toArray, List.set_cons_zero, List.set_cons_succ]) | fail
    first | (refine wpAnyH_take (i := 2) (v := _) (by simp only [List.getElem?_toArray, List.getElem?_cons_zero, List.getElem?_cons_succ]; rfl) (by kernel_rfl) (by kernel_rfl) (by kernel_rfl) (by exact fun _ _ _ h => h) (yields_row (by rfl) _ rfl gx rfl X (fun _ s => BlkL.range (stab_blk _ _ _ _ hx14 s)) hundR rfl hzX) (by assumption) ?_; simp only [Act.put, List.setIfInBounds_toArray, List.set_cons_zero, List.set_cons_succ]) | (refine wpAnyH_take (i := 2) (v := undef) (by simp only [List.getElem?_toArray, List.getElem?_cons_zero, List.getElem?_cons_succ]; rfl) (by kernel_rfl) (by kernel_rfl) (by kernel_rfl) (by exact fun _ _ _ h => h) (Or.inr ⟨by rfl, rfl⟩) (by assumption) ?_; simp only [Act.put, List.setIfInBounds_toArray, List.set_cons_zero, List.set_cons_succ]) | fail
    first | (refine wpAnyH_take (i := 3) (v := ?_) (by simp only [List.getElem?_toArray, List.getElem?_cons_zero, List.getElem?_cons_succ]; rfl) (by kernel_rfl) (by kernel_rfl) (by kernel_rfl) (by exact fun _ _ _ h => h) (Or.inl ⟨by rfl, ?_⟩) (by assumption) ?_; rotate_left; (focus (intro w hSw; (try dsimp only at hSw); go_simp; try with_reducible rfl)); simp only [Act.put, List.setIfInBounds_toArray, List.set_cons_zero, List.set_cons_succ]) | (refine wpAnyH_take (i := 3) (v := undef) (by simp only [List.getElem?_toArray, List.getElem?_cons_zero, List.getElem?_cons_succ]; rfl) (by kernel_rfl) (by kernel_rfl) (by kernel_rfl) (by exact fun _ _ _ h => h) (Or.inr ⟨by rfl, rfl⟩) (by assumption) ?_; simp only [Act.put, List.setIfInBounds_toArray, List.set_cons_zero, List.set_cons_succ]) | fail
    first | (refine wpAnyH_take (i := 4) (v := ?_) (by simp only [List.getElem?_toArray, List.getElem?_cons_zero, List.getElem?_cons_succ]; rfl) (by kernel_rfl) (by kernel_rfl) (by kernel_rfl) (by exact fun _ _ _ h => h) (Or.inl ⟨by rfl, ?_⟩) (by assumption) ?_; rotate_left; (focus (intro w hSw; (try dsimp only at hSw); go_simp; try with_reducible rfl)); simp only [Act.put, List.setIfInBounds_toArray, List.set_cons_zero, List.set_cons_succ]) | (refine wpAnyH_take (i := 4) (v := undef) (by simp only [List.getElem?_toArray, List.getElem?_cons_zero, List.getElem?_cons_succ]; rfl) (by kernel_rfl) (by kernel_rfl) (by kernel_rfl) (by exact fun _ _ _ h => h) (Or.inr ⟨by rfl, rfl⟩) (by assumption) ?_; simp only [Act.put, List.setIfInBounds_toArray, List.set_cons_zero, List.set_cons_succ]) | fail
    first | (refine wpAnyH_take (i := 5) (v := _) (by simp only [List.getElem?_toArray, List.getElem?_cons_zero, List.getElem?_cons_succ]; rfl) (by kernel_rfl) (by kernel_rfl) (by kernel_rfl) (by exact fun _ _ _ h => h) (yields_at (by rfl) _ rfl ⟨gr, 9, none⟩ rfl X (fun _ s => CellsAt.below hc9 s) hundR rfl hzX) (by assumption) ?_; simp only [Act.put, List.setIfInBounds_toArray, List.set_cons_zero, List.set_cons_succ]) | (refine wpAnyH_take (i := 5) (v := undef) (by simp only [List.getElem?_toArray, List.getElem?_cons_zero, List.getElem?_cons_succ]; rfl) (by kernel_rfl) (by kernel_rfl) (by kernel_rfl) (by exact fun _ _ _ h => h) (Or.inr ⟨by rfl, rfl⟩) (by assumption) ?_; simp only [Act.put, List.setIfInBounds_toArray, List.set_cons_zero, List.set_cons_succ]) | fail
    first | (refine wpAnyH_take (i := 6) (v := ?_) (by simp only [List.getElem?_toArray, List.getElem?_cons_zero, List.getElem?_cons_succ]; rfl) (by kernel_rfl) (by kernel_rfl) (by kernel_rfl) (by exact fun _ _ _ h => h) (Or.inl ⟨by rfl, ?_⟩) (by assumption) ?_; rotate_left; (focus (intro w hSw; (try dsimp only at hSw); go_simp; try with_reducible rfl)); simp only [Act.put, List.setIfInBounds_toArray, List.set_cons_zero, List.set_cons_succ]) | (refine wpAnyH_take (i := 6) (v := undef) (by simp only [List.getElem?_toArray, List.getElem?_cons_zero, List.getElem?_cons_succ]; rfl) (by kernel_rfl) (by kernel_rfl) (by kernel_rfl) (by exact fun _ _ _ h => h) (Or.inr ⟨by rfl, rfl⟩) (by assumption) ?_; simp only [Act.put, List.setIfInBounds_toArray, List.set_cons_zero, List.set_cons_succ]) | fail
    first | (refine wpAnyH_take (i := 7) (v := ?_) (by simp only [List.getElem?_toArray, List.getElem?_cons_zero, List.getElem?_cons_succ]; rfl) (by kernel_rfl) (by kernel_rfl) (by kernel_rfl) (by exact fun _ _ _ h => h) (Or.inl ⟨by rfl, ?_⟩) (by assumption) ?_; rotate_left; (focus (intro w hSw; (try dsimp only at hSw); go_simp; try with_reducible rfl)); simp only [Act.put, List.setIfInBounds_toArray, List.set_cons_zero, List.set_cons_succ]) | (refine wpAnyH_take (i := 7) (v := undef) (by simp only [List.getElem?_toArray, List.getElem?_cons_zero, List.getElem?_cons_succ]; rfl) (by kernel_rfl) (by kernel_rfl) (by kernel_rfl) (by exact fun _ _ _ h => h) (Or.inr ⟨by rfl, rfl⟩) (by assumption) ?_; simp only [Act.put, List.setIfInBounds_toArray, List.set_cons_zero, List.set_cons_succ]) | fail
    first | (refine wpAnyH_take (i := 8) (v := ?_) (by simp only [List.getElem?_toArray, List.getElem?_cons_zero, List.getElem?_cons_succ]; rfl) (by kernel_rfl) (by kernel_rfl) (by kernel_rfl) (by exact fun _ _ _ h => h) (Or.inl ⟨by rfl, ?_⟩) (by assumption) ?_; rotate_left; (focus (intro w hSw; (try dsimp only at hSw); go_simp; try with_reducible rfl)); simp only [Act.put, List.setIfInBounds_toArray, List.set_cons_zero, List.set_cons_succ]) | (refine wpAnyH_take (i := 8) (v := undef) (by simp only [List.getElem?_toArray, List.getElem?_cons_zero, List.getElem?_cons_succ]; rfl) (by kernel_rfl) (by kernel_rfl) (by kernel_rfl) (by exact fun _ _ _ h => h) (Or.inr ⟨by rfl, rfl⟩) (by assumption) ?_; simp only [Act.put, List.setIfInBounds_toArray, List.set_cons_zero, List.set_cons_succ]) | fail
    first | (refine wpAnyH_take (i := 9) (v := ?_) (by simp only [List.getElem?_toArray, List.getElem?_cons_zero, List.getElem?_cons_succ]; rfl) (by kernel_rfl) (by kernel_rfl) (by kernel_rfl) (by exact fun _ _ _ h => h) (Or.inl ⟨by rfl, ?_⟩) (by assumption) ?_; rotate_left; (focus (intro w hSw; (try dsimp only at hSw); go_simp; try with_reducible rfl)); simp only [Act.put, List.setIfInBounds_toArray, List.set_cons_zero, List.set_cons_succ]) | (refine wpAnyH_take (i := 9) (v := undef) (by simp only [List.getElem?_toArray, List.getElem?_cons_zero, List.getElem?_cons_succ]; rfl) (by kernel_rfl) (by kernel_rfl) (by kernel_rfl) (by exact fun _ _ _ h => h) (Or.inr ⟨by rfl, rfl⟩) (by assumption) ?_; simp only [Act.put, List.setIfInBounds_toArray, List.set_cons_zero, List.set_cons_succ]) | fail
    first | (refine wpAnyH_take (i := 10) (v := ?_) (by simp only [List.getElem?_toArray, List.getElem?_cons_zero, List.getElem?_cons_succ]; rfl) (by kernel_rfl) (by kernel_rfl) (by kernel_rfl) (by exact fun _ _ _ h => h) (Or.inl ⟨by rfl, ?_⟩) (by assumption) ?_; rotate_left; (focus (intro w hSw; (try dsimp only at hSw); go_simp; try with_reducible rfl)); simp only [Act.put, List.setIfInBounds_toArray, List.set_cons_zero, List.set_cons_succ]) | (refine wpAnyH_take (i := 10) (v := undef) (by simp only [List.getElem?_toArray, List.getElem?_cons_zero, List.getElem?_cons_succ]; rfl) (by kernel_rfl) (by kernel_rfl) (by kernel_rfl) (by exact fun _ _ _ h => h) (Or.inr ⟨by rfl, rfl⟩) (by assumption) ?_; simp only [Act.put, List.setIfInBounds_toArray, List.set_cons_zero, List.set_cons_succ]) | fail
    first | (refine wpAnyH_take (i := 11) (v := ?_) (by simp only [List.getElem?_toArray, List.getElem?_cons_zero, List.getElem?_cons_succ]; rfl) (by kernel_rfl) (by kernel_rfl) (by kernel_rfl) (by exact fun _ _ _ h => h) (Or.inl ⟨by rfl, ?_⟩) (by assumption) ?_; rotate_left; (focus (intro w hSw; (try dsimp only at hSw); go_simp; try with_reducible rfl)); simp only [Act.put, List.setIfInBounds_toArray, List.set_cons_zero, List.set_cons_succ]) | (refine wpAnyH_take (i := 11) (v := undef) (by simp only [List.getElem?_toArray, List.getElem?_cons_zero, List.getElem?_cons_succ]; rfl) (by kernel_rfl) (by kernel_rfl) (by kernel_rfl) (by exact fun _ _ _ h => h) (Or.inr ⟨by rfl, rfl⟩) (by assumption) ?_; simp only [Act.put, List.setIfInBounds_toArray, List.set_cons_zero, List.set_cons_succ]) | fail
    first | (refine wpAnyH_take (i := 12) (v := ?_) (by simp only [List.getElem?_toArray, List.getElem?_cons_zero, List.getElem?_cons_succ]; rfl) (by kernel_rfl) (by kernel_rfl) (by kernel_rfl) (by exact fun _ _ _ h => h) (Or.inl ⟨by rfl, ?_⟩) (by assumption) ?_; rotate_left; (focus (intro w hSw; (try dsimp only at hSw); go_simp; try with_reducible rfl)); simp only [Act.put, List.setIfInBounds_toArray, List.set_cons_zero, List.set_cons_succ]) | (refine wpAnyH_take (i := 12) (v := undef) (by simp only [List.getElem?_toArray, List.getElem?_cons_zero, List.getElem?_cons_succ]; rfl) (by kernel_rfl) (by kernel_rfl) (by kernel_rfl) (by exact fun _ _ _ h => h) (Or.inr ⟨by rfl, rfl⟩) (by assumption) ?_; simp only [Act.put, List.setIfInBounds_toArray, List.set_cons_zero, List.set_cons_succ]) | fail
    first | (refine wpAnyH_take (i := 13) (v := ?_) (by simp only [List.getElem?_toArray, List.getElem?_cons_zero, List.getElem?_cons_succ]; rfl) (by kernel_rfl) (by kernel_rfl) (by kernel_rfl) (by exact fun _ _ _ h => h) (Or.inl ⟨by rfl, ?_⟩) (by assumption) ?_; rotate_left; (focus (intro w hSw; (try dsimp only at hSw); go_simp; try with_reducible rfl)); simp only [Act.put, List.setIfInBounds_toArray, List.set_cons_zero, List.set_cons_succ]) | (refine wpAnyH_take (i := 13) (v := undef) (by simp only [List.getElem?_toArray, List.getElem?_cons_zero, List.getElem?_cons_succ]; rfl) (by kernel_rfl) (by kernel_rfl) (by kernel_rfl) (by exact fun _ _ _ h => h) (Or.inr ⟨by rfl, rfl⟩) (by assumption) ?_; simp only [Act.put, List.setIfInBounds_toArray, List.set_cons_zero, List.set_cons_succ]) | fail
    first | (refine wpAnyH_take (i := 14) (v := ?_) (by simp only [List.getElem?_toArray, List.getElem?_cons_zero, List.getElem?_cons_succ]; rfl) (by kernel_rfl) (by kernel_rfl) (by kernel_rfl) (by exact fun _ _ _ h => h) (Or.inl ⟨by rfl, ?_⟩) (by assumption) ?_; rotate_left; (focus (intro w hSw; (try dsimp only at hSw); go_simp; try with_reducible rfl)); simp only [Act.put, List.setIfInBounds_toArray, List.set_cons_zero, List.set_cons_succ]) | (refine wpAnyH_take (i := 14) (v := undef) (by simp only [List.getElem?_toArray, List.getElem?_cons_zero, List.getElem?_cons_succ]; rfl) (by kernel_rfl) (by kernel_rfl) (by kernel_rfl) (by exact fun _ _ _ h => h) (Or.inr ⟨by rfl, rfl⟩) (by assumption) ?_; simp only [Act.put, List.setIfInBounds_toArray, List.set_cons_zero, List.set_cons_succ]) | fail
    first | (refine wpAnyH_take (i := 15) (v := ?_) (by simp only [List.getElem?_toArray, List.getElem?_cons_zero, List.getElem?_cons_succ]; rfl) (by kernel_rfl) (by kernel_rfl) (by kernel_rfl) (by exact fun _ _ _ h => h) (Or.inl ⟨by rfl, ?_⟩) (by assumption) ?_; rotate_left; (focus (intro w hSw; (try dsimp only at hSw); go_simp; try with_reducible rfl)); simp only [Act.put, List.setIfInBounds_toArray, List.set_cons_zero, List.set_cons_succ]) | (refine wpAnyH_take (i := 15) (v := undef) (by simp only [List.getElem?_toArray, List.getElem?_cons_zero, List.getElem?_cons_succ]; rfl) (by kernel_rfl) (by kernel_rfl) (by kernel_rfl) (by exact fun _ _ _ h => h) (Or.inr ⟨by rfl, rfl⟩) (by assumption) ?_; simp only [Act.put, List.setIfInBounds_toArray, List.set_cons_zero, List.set_cons_succ]) | fail
    first | (refine wpAnyH_take (i := 16) (v := ?_) (by simp only [List.getElem?_toArray, List.getElem?_cons_zero, List.getElem?_cons_succ]; rfl) (by kernel_rfl) (by kernel_rfl) (by kernel_rfl) (by exact fun _ _ _ h => h) (Or.inl ⟨by rfl, ?_⟩) (by assumption) ?_; rotate_left; (focus (intro w hSw; (try dsimp only at hSw); go_simp; try with_reducible rfl)); simp only [Act.put, List.setIfInBounds_toArray, List.set_cons_zero, List.set_cons_succ]) | (refine wpAnyH_take (i := 16) (v := undef) (by simp only [List.getElem?_toArray, List.getElem?_cons_zero, List.getElem?_cons_succ]; rfl) (by kernel_rfl) (by kernel_rfl) (by kernel_rfl) (by exact fun _ _ _ h => h) (Or.inr ⟨by rfl, rfl⟩) (by assumption) ?_; simp only [Act.put, List.setIfInBounds_toArray, List.set_cons_zero, List.set_cons_succ]) | fail
    first | (refine wpAnyH_take (i := 17) (v := ?_) (by simp only [List.getElem?_toArray, List.getElem?_cons_zero, List.getElem?_cons_succ]; rfl) (by kernel_rfl) (by kernel_rfl) (by kernel_rfl) (by exact fun _ _ _ h => h) (Or.inl ⟨by rfl, ?_⟩) (by assumption) ?_; rotate_left; (focus (intro w hSw; (try dsimp only at hSw); go_simp; try with_reducible rfl)); simp only [Act.put, List.setIfInBounds_toArray, List.set_cons_zero, List.set_cons_succ]) | (refine wpAnyH_take (i := 17) (v := undef) (by simp only [List.getElem?_toArray, List.getElem?_cons_zero, List.getElem?_cons_succ]; rfl) (by kernel_rfl) (by kernel_rfl) (by kernel_rfl) (by exact fun _ _ _ h => h) (Or.inr ⟨by rfl, rfl⟩) (by assumption) ?_; simp only [Act.put, List.setIfInBounds_toArray, List.set_cons_zero, List.set_cons_succ]) | fail
    first | (refine wpAnyH_take (i := 18) (v := _) (by simp only [List.getElem?_toArray, List.getElem?_cons_zero, List.getElem?_cons_succ]; rfl) (by kernel_rfl) (by kernel_rfl) (by kernel_rfl) (by exact fun _ _ _ h => h) (yields_row (by rfl) _ rfl gm rfl M (fun _ s => BlkL.range (stab_blk _ _ _ _ hmm14 s)) hundM rfl hzM) (by assumption) ?_; simp only [Act.put, List.setIfInBounds_toArray, List.set_cons_zero, List.set_cons_succ]) | (refine wpAnyH_take (i := 18) (v := undef) (by simp only [List.getElem?_toArray, List.getElem?_cons_zero, List.getElem?_cons_succ]; rfl) (by kernel_rfl) (by kernel_rfl) (by kernel_rfl) (by exact fun _ _ _ h => h) (Or.inr ⟨by rfl, rfl⟩) (by assumption) ?_; simp only [Act.put, List.setIfInBounds_toArray, List.set_cons_zero, List.set_cons_succ]) | fail
    first | (refine wpAnyH_take (i := 20) (v := ?_) (by simp only [List.getElem?_toArray, List.getElem?_cons_zero, List.getElem?_cons_succ]; rfl) (by kernel_rfl) (by kernel_rfl) (by kernel_rfl) (by exact fun _ _ _ h => h) (Or.inl ⟨by rfl, ?_⟩) (by assumption) ?_; rotate_left; (focus (intro w hSw; (try dsimp only at hSw); go_simp; try with_reducible rfl)); simp only [Act.put, List.setIfInBounds_toArray, List.set_cons_zero, List.set_cons_succ]) | (refine wpAnyH_take (i := 20) (v := undef) (by simp only [List.getElem?_toArray, List.getElem?_cons_zero, List.getElem?_cons_succ]; rfl) (by kernel_rfl) (by kernel_rfl) (by kernel_rfl) (by exact fun _ _ _ h => h) (Or.inr ⟨by rfl, rfl⟩) (by assumption) ?_; simp only [Act.put, List.setIfInBounds_toArray, List.set_cons_zero, List.set_cons_succ]) | fail
    first | (refine wpAnyH_take (i := 19) (v := undef) (by simp only [List.getElem?_toArray, List.getElem?_cons_zero, List.getElem?_cons_succ]; rfl) (by kernel_rfl) (by kernel_rfl) (by kernel_rfl) (by exact fun _ _ _ h => h) (Or.inr ⟨by rfl, rfl⟩) (by assumption) ?_; simp only [Act.put, List.setIfInBounds_toArray, List.set_cons_zero, List.set_cons_succ]) | (refine wpAnyH_ready (rs := [19]) (by kernel_rfl) (by simp) ?_; refine AllReadyH.cons (by simp only [List.getElem?_toArray, List.getElem?_cons_zero, List.getElem?_cons_succ]; rfl) (fun K hK => ?_) AllReadyH.nil; go_simp; (first | (refine (krl _ (hLen.below (Below.then hB14 hHeld)) (stab_blk _ _ _ _ hm14 hHeld)).mono ?_; rintro e w' ⟨rfl, hb⟩; have hS3 := Below.then hHeld hb)); refine hK.out _ _ (by first | exact hS3 | exact hS2) ?_; clear hHeld hK; intro hHeld; (try simp only [Act.put, List.setIfInBounds_toArray, List.set_cons_zero, List.set_cons_succ])) | fail
    first | (refine wpAnyH_take (i := 21) (v := ?_) (by simp only [List.getElem?_toArray, List.getElem?_cons_zero, List.getElem?_cons_succ]; rfl) (by kernel_rfl) (by kernel_rfl) (by kernel_rfl) (by exact fun _ _ _ h => h) (Or.inl ⟨by rfl, ?_⟩) (by assumption) ?_; rotate_left; (focus (intro w hSw; (try dsimp only at hSw); go_simp; try with_reducible rfl)); simp only [Act.put, List.setIfInBounds_toArray, List.set_cons_zero, List.set_cons_succ]) | (refine wpAnyH_take (i := 21) (v := undef) (by simp only [List.getElem?_toArray, List.getElem?_cons_zero, List.getElem?_cons_succ]; rfl) (by kernel_rfl) (by kernel_rfl) (by kernel_rfl) (by exact fun _ _ _ h => h) (Or.inr ⟨by rfl, rfl⟩) (by assumption) ?_; simp only [Act.put, List.setIfInBounds_toArray, List.set_cons_zero, List.set_cons_succ]) | fail
    first | (refine wpAnyH_take (i := 22) (v := ?_) (by simp only [List.getElem?_toArray, List.getElem?_cons_zero, List.getElem?_cons_succ]; rfl) (by kernel_rfl) (by kernel_rfl) (by kernel_rfl) (by exact fun _ _ _ h => h) (Or.inl ⟨by rfl, ?_⟩) (by assumption) ?_; rotate_left; (focus (intro w hSw; (try dsimp only at hSw); go_simp; try with_reducible rfl)); simp only [Act.put, List.setIfInBounds_toArray, List.set_cons_zero, List.set_cons_succ]) | (refine wpAnyH_take (i := 22) (v := undef) (by simp only [List.getElem?_toArray, List.getElem?_cons_zero, List.getElem?_cons_succ]; rfl) (by kernel_rfl) (by kernel_rfl) (by kernel_rfl) (by exact fun _ _ _ h => h) (Or.inr ⟨by rfl, rfl⟩) (by assumption) ?_; simp only [Act.put, List.setIfInBounds_toArray, List.set_cons_zero, List.set_cons_succ]) | fail
    first | (refine wpAnyH_take (i := 23) (v := ?_) (by simp only [List.getElem?_toArray, List.getElem?_cons_zero, List.getElem?_cons_succ]; rfl) (by kernel_rfl) (by kernel_rfl) (by kernel_rfl) (by exact fun _ _ _ h => h) (Or.inl ⟨by rfl, ?_⟩) (by assumption) ?_; rotate_left; (focus (intro w hSw; (try dsimp only at hSw); go_simp; try with_reducible rfl)); simp only [Act.put, List.setIfInBounds_toArray, List.set_cons_zero, List.set_cons_succ]) | (refine wpAnyH_take (i := 23) (v := undef) (by simp only [List.getElem?_toArray, List.getElem?_cons_zero, List.getElem?_cons_succ]; rfl) (by kernel_rfl) (by kernel_rfl) (by kernel_rfl) (by exact fun _ _ _ h => h) (Or.inr ⟨by rfl, rfl⟩) (by assumption) ?_; simp only [Act.put, List.setIfInBounds_toArray, List.set_cons_zero, List.set_cons_succ]) | fail
    refine wpAnyH_done (by kernel_rfl) ?_ _
    go_wp2_with fail
    go_ret
    exact ⟨rfl, Below.then hB14 hHeld⟩
end Go.Proofs.Ytjpabjmicaopcaa
