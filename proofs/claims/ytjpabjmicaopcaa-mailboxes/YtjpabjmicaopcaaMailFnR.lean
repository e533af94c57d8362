/-
  PACKAGE mail at the landed code: Rule, Send, Release.
-/
import Derived.Test.YtjpabjmicaopcaaMailLaw
import Derived.Test.YtjpabjmicaopcaaMailBox
import Derived.Test.YtjpabjmicaopcaaMailShelf
namespace Go.Proofs.Ytjpabjmicaopcaa
open Go.RowKit
set_option maxRecDepth 8000
set_option linter.unusedSimpArgs false
set_option linter.unusedVariables false

set_option maxRecDepth 8000 in
set_option maxHeartbeats 2000000 in
theorem mrule1_any (w : World) (bx : Nat) (m : Msg) (x : MRul) (hb : BlkL bx m.cs w) :
    Calls Try.prog 31 #[.agg x.cs.toArray, .pointer (some ⟨bx, 0, none⟩)] w fun e w' => e = .returned (.bool (ruleP m x)) ∧ Below w.heap.size w w' := by
  have hundL := Try.underlying24
  have hszL : ∀ t : Lab, (Try.prog.info? 24).map (·.size) = some (lab4 t).length := fun t => by show _ = some 4; kernel_rfl
  have hx0 := blkl_alloc w x.cs.toArray 29
  have hB0 := alloc_below w (.cells x.cs.toArray 29)
  have hm0 := stab_blk _ _ _ _ hb hB0
  have q1 : CellsAt (w.alloc (.cells x.cs.toArray 29)) ⟨w.heap.size, 0, none⟩ (lab4 x.src) := cells_src (cells_blk hx0 0 (fun j v h => by rw [Nat.zero_add]; exact h))
  have q2 := cells_blk hm0 1 (ms_lab m)
  have q3 := cells_blk hx0 4 (mr_dst x)
  have q4 := cells_blk hm0 6 (ms_box m)
  have e1 := lab_eqlM x.src m.lab
  have e2 := lab_eqlM x.dst m.box
  obtain ⟨X, hX⟩ : ∃ X, x.cs = X := ⟨_, rfl⟩
  rw [hX] at q1 q2 q3 q4 hB0 ⊢
  clear hX hx0 hm0 hb
  unfold ruleP
  cases h1 : labEq x.src m.lab
  · rw [h1] at e1
    go_enter Try.func31, Try.ntmps31
    go_wp2_with (first | (refine wpList_load_at rfl _ rfl ⟨w.heap.size, 0, none⟩ rfl (lab4 x.src) q1 hundL rfl (hszL x.src) ?_) | (refine wpList_load_at rfl _ rfl ⟨bx, 1, none⟩ rfl (lab4 m.lab) q2 hundL rfl (hszL m.lab) ?_) | fail)
    go_ret
    exact ⟨rfl, hB0⟩
  rw [h1] at e1
  obtain ⟨c, hc⟩ : ∃ c, labEq x.dst m.box = c := ⟨_, rfl⟩
  simp only [hc] at e2
  rw [hc]
  go_enter Try.func31, Try.ntmps31
  go_wp2_with (first | (refine wpList_load_at rfl _ rfl ⟨w.heap.size, 0, none⟩ rfl (lab4 x.src) q1 hundL rfl (hszL x.src) ?_) | (refine wpList_load_at rfl _ rfl ⟨bx, 1, none⟩ rfl (lab4 m.lab) q2 hundL rfl (hszL m.lab) ?_) | (refine wpList_load_atg (by rfl) _ rfl ⟨w.heap.size, 4, none⟩ rfl (lab4 x.dst) q3 hundL rfl (hszL x.dst) ?_) | (refine wpList_load_atg (by rfl) _ rfl ⟨bx, 6, none⟩ rfl (lab4 m.box) q4 hundL rfl (hszL m.box) ?_) | fail)
  go_ret
  exact ⟨rfl, hB0⟩
/-- What IndexFunc tells. -/
def RuIdx (l : List MRul) (o : Option MRul) (r : Int) : Prop := match o with
  | some x => ∃ i : Nat, r = (i : Int) ∧ l[i]? = some x
  | none => r = -1
set_option maxRecDepth 8000 in
set_option maxHeartbeats 2000000 in
theorem ruidx_any (w : World) (bx : Nat) (p : Msg) (hb : BlkL bx p.cs w) (a : Option Addr) (l : List MRul) (cap : Nat) (hm2 : l.length ≤ 1000000) (hG : RowAt 9 MRul.cs w a l) :
    Calls Try.prog 30 #[.slice a l.length cap, .func (.func 31) #[] #[.pointer (some ⟨bx, 0, none⟩)]] w fun e w' =>
      ∃ r : Int, e = .returned (.int .i64 r) ∧ RuIdx l (ruleF l p) r ∧ Below w.heap.size w w' := by
  have hund := Try.underlying29
  have hszN : (Try.prog.info? 29).map (·.size) = some 9 := by kernel_rfl
  obtain ⟨m, hm⟩ : ∃ m, l.length = m := ⟨_, rfl⟩
  rw [hm] at hm2 ⊢
  replace hm : Aside (l.length = m) := hm
  have hr0 : Aside (ruleF l p = (l.drop 0).find? (ruleP p)) := rfl
  obtain ⟨o, ho⟩ : ∃ o, ruleF l p = o := ⟨_, rfl⟩
  rw [ho] at hr0 ⊢
  clear ho
  go_enter Try.func30, Try.ntmps30
  go_wp2_with fail
  go_loopw [8] (fun t wr => ∃ q : Nat, q ≤ m ∧ t = .int .i64 (q : Int) ∧ Below w.heap.size w wr ∧ Aside (o = (l.drop q).find? (ruleP p))) (fun t _ => m - (Go.RowKit.intOf t).toNat)
  case atStart => exact ⟨0, by omega, rfl, Below.refl _ _, hr0⟩
  case round =>
    obtain ⟨q, hq, rfl, hB, hall⟩ := hrel
    by_cases hlt : q < m
    · obtain ⟨x, hu⟩ : ∃ x, l[q]? = some x := ⟨_, List.getElem?_eq_getElem (by rw [hm.out]; omega)⟩
      rw [rule_drop hu] at hall
      obtain ⟨y, rfl, -⟩ := hG q x hu
      have hw := (hG.below mr_len hB).at mr_len hu
      have cS := mrule1_any wr bx p x (stab_blk _ _ _ _ hb hB)
      obtain ⟨cs, hcs⟩ : ∃ cs, x.cs = cs := ⟨_, rfl⟩
      have hlen : cs.length = 9 := by rw [← hcs]; rfl
      rw [hcs] at hw cS
      have hszc : (Try.prog.info? 29).map (·.size) = some cs.length := by rw [hlen]; exact hszN
      clear hb hcs hlen
      cases he : ruleP p x
      · rw [he, if_neg (by simp)] at hall
        rw [he] at cS
        clear he hu
        go_wp2_with (first | (refine wpList_load_at rfl _ rfl (y.add (q * 9)) rfl cs hw hund rfl hszc ?_) | fail)
        refine cS.mono ?_
        rintro e w1 ⟨rfl, hB1⟩
        go_wp2_with fail
        exact ⟨⟨q + 1, by omega, by simp, Below.then hB hB1, hall⟩, by simp [Go.RowKit.intOf]; omega⟩
      · rw [he, if_pos rfl] at hall
        rw [he] at cS
        have hfin : RuIdx l o (q : Int) := by
          rw [hall.out]
          exact ⟨q, rfl, hu⟩
        clear he hu hall
        go_wp2_with (first | (refine wpList_load_at rfl _ rfl (y.add (q * 9)) rfl cs hw hund rfl hszc ?_) | fail)
        refine cS.mono ?_
        rintro e w1 ⟨rfl, hB1⟩
        go_wp2_with fail
        go_ret
        exact ⟨_, rfl, hfin, Below.then hB hB1⟩
    · have hfin : RuIdx l o (-1) := by
        rw [hall.out, List.drop_eq_nil_of_le (by rw [hm.out]; omega)]
        exact rfl
      go_wp2_with fail
      go_ret
      exact ⟨_, rfl, hfin, hB⟩
set_option maxRecDepth 8000 in
set_option maxHeartbeats 2000000 in
theorem prule_any (a : Option Addr) (cap : Nat) (l : List MRul) (m : Msg) (hl : l.length ≤ 1000000) (w : World) (h : RowAt 9 MRul.cs w a l) :
    Calls Try.prog 14 #[.slice a l.length cap, .agg m.cs.toArray] w fun e w' => e = .returned (.tuple #[.agg (foundRu (ruleF l m)).toArray, .bool (ruleF l m).isSome]) ∧ Below w.heap.size w w' := by
  have hund := Try.underlying29
  have hsz9 : (Try.prog.info? 29).map (·.size) = some 9 := by kernel_rfl
  obtain ⟨hm0, hr0, hB0⟩ := box_alloc2 w m
  have cI := ruidx_any _ w.heap.size m hm0 a l cap hl (h.below mr_len hB0)
  have hrow := h.below mr_len hB0
  have hhs : ((w.alloc (.cells m.cs.toArray 26)).alloc (.cells zR9 29)).heap.size = w.heap.size + 2 := by rw [World.size_alloc, World.size_alloc]
  obtain ⟨o, ho⟩ : ∃ o, ruleF l m = o := ⟨_, rfl⟩
  rw [ho] at cI ⊢
  clear ho
  obtain ⟨n, hn⟩ : ∃ n, l.length = n := ⟨_, rfl⟩
  rw [hn] at cI ⊢
  replace hn : Aside (l.length = n) := hn
  obtain ⟨M, hM⟩ : ∃ M, m.cs = M := ⟨_, rfl⟩
  rw [hM] at hr0 hB0 cI hrow hhs ⊢
  clear hM hm0
  go_enter Try.func14, Try.ntmps14
  go_upto_region 1 with fail
  generalize (w.alloc (.cells M.toArray 26)).alloc (.cells zR9 29) = W0 at *
  (try simp only [World.size_alloc])
  go_wp2_with fail
  refine cI.mono ?_
  rintro e W1 ⟨r, rfl, hr, hB1⟩
  have hBa := Below.then hB0 hB1
  have hr1 := stab_blk _ _ _ _ hr0 hB1
  have hrow1 := hrow.below mr_len hB1
  clear cI hrow hr0
  cases o with
  | none =>
    obtain rfl : r = -1 := hr
    obtain ⟨W5, hW5, hth5, hk5, hb5⟩ := mput_any hr1 (ds := zeroR.cs) rfl (by decide)
    have hfin := hb5 _ _ (Nat.le_succ _) hBa
    have hkr := hk5.range
    clear hr1 hk5 hb5
    go_wp2_with (first | (refine wpList_store_row rfl _ _ rfl (w.heap.size + 1) rfl zeroR.cs rfl hth5 hsz9 (mr_one zeroR) hW5 ?_) | fail)
    refine bodyPost_ret (v := .tuple #[.agg zeroR.cs.toArray, .bool false]) (results_row2 rfl _ _ (w.heap.size + 1) rfl (.bool false) rfl zeroR.cs hkr hund rfl hsz9) rfl ?_
    exact ⟨rfl, hfin⟩
  | some x =>
    obtain ⟨i, rfl, hx⟩ := hr
    have hin : i < n := by rw [← hn.out]; exact (List.getElem?_eq_some_iff.1 hx).1
    obtain ⟨y, rfl, -⟩ := hrow1 i x hx
    have hw := hrow1.at mr_len hx
    have i1 : ¬ (i : Int) < 0 := by omega
    obtain ⟨xs, hxe⟩ : ∃ xs, x.cs = xs := ⟨_, rfl⟩
    have hlx : xs.length = 9 := by rw [← hxe]; rfl
    have hone : ∀ v ∈ xs, v.oneCell' = true := by rw [← hxe]; exact mr_one x
    rw [hxe] at hw
    have hszx : (Try.prog.info? 29).map (·.size) = some xs.length := by rw [hlx]; exact hsz9
    obtain ⟨W5, hW5, hth5, hk5, hb5⟩ := mput_any hr1 (ds := xs) (by rw [hlx]; rfl) (by rw [hlx]; decide)
    have hfin := hb5 _ _ (Nat.le_succ _) hBa
    have hkr := hk5.range
    clear hr1 hk5 hb5 hrow1 hx
    go_wp2_with (first | (refine wpList_load_at rfl _ rfl (y.add (i * 9)) rfl xs hw hund rfl hszx ?_) | (refine wpList_store_row rfl _ _ rfl (w.heap.size + 1) rfl xs rfl hth5 hszx hone hW5 ?_) | fail)
    refine bodyPost_ret (v := .tuple #[.agg xs.toArray, .bool true]) (results_row2 rfl _ _ (w.heap.size + 1) rfl (.bool true) rfl xs hkr hund rfl hszx) rfl ?_
    refine ⟨?_, hfin⟩
    show _ = Ending.returned (.tuple #[.agg x.cs.toArray, .bool true])
    rw [hxe]
end Go.Proofs.Ytjpabjmicaopcaa
