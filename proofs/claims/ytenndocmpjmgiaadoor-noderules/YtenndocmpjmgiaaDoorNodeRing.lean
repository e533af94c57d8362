/-
  RINGS, checked; a node that is not too much. Written by mk_nchk.py.
-/
import Derived.Test.YtenndocmpjmgiaaDoorRgs
import Derived.Test.YtenndocmpjmgiaaDoorNodeRefEnc
namespace Go.Proofs.YtenndocmpjmgiaaDoor
open Go.RowKit
set_option linter.unusedSimpArgs false
set_option linter.unusedVariables false

set_option maxHeartbeats 1000000 in
theorem rgcheck_any (x : Rg) (w : World) :
    Calls Tryd.prog 29 #[x.v] w fun e w' => e = .returned (.int .i64 (chkR x)) ∧ Below w.heap.size w w' := by
  by_cases h0 : x.a < 0
  · have e1 : chkR x = 1 := by rw [chkR, if_neg (by unfold OkR; omega)]
    rw [e1]
    go_enter Tryd.func29, Tryd.ntmps29
    go_wp2
    go_ret
    exact ⟨rfl, alloc_below _ _⟩
  by_cases h1 : x.b < x.a
  · have e1 : chkR x = 1 := by rw [chkR, if_neg (by unfold OkR; omega)]
    rw [e1]
    go_enter Tryd.func29, Tryd.ntmps29
    go_wp2
    go_ret
    exact ⟨rfl, alloc_below _ _⟩
  by_cases h2 : x.c < x.b
  · have e1 : chkR x = 1 := by rw [chkR, if_neg (by unfold OkR; omega)]
    rw [e1]
    go_enter Tryd.func29, Tryd.ntmps29
    go_wp2
    go_ret
    exact ⟨rfl, alloc_below _ _⟩
  by_cases h3 : 7 < x.c
  · have e1 : chkR x = 1 := by rw [chkR, if_neg (by unfold OkR; omega)]
    rw [e1]
    go_enter Tryd.func29, Tryd.ntmps29
    go_wp2
    go_ret
    exact ⟨rfl, alloc_below _ _⟩
  by_cases h4 : x.g < 0
  · have e1 : chkR x = 1 := by rw [chkR, if_neg (by unfold OkR; omega)]
    rw [e1]
    go_enter Tryd.func29, Tryd.ntmps29
    go_wp2
    go_ret
    exact ⟨rfl, alloc_below _ _⟩
  by_cases h5 : 16 < x.g
  · have e1 : chkR x = 1 := by rw [chkR, if_neg (by unfold OkR; omega)]
    rw [e1]
    go_enter Tryd.func29, Tryd.ntmps29
    go_wp2
    go_ret
    exact ⟨rfl, alloc_below _ _⟩
  have e1 : chkR x = 0 := by rw [chkR, if_pos (by unfold OkR; omega)]
  rw [e1]
  go_enter Tryd.func29, Tryd.ntmps29
  go_wp2
  go_ret
  exact ⟨rfl, alloc_below _ _⟩
set_option maxHeartbeats 1000000 in
theorem rrgcheck_any (x : Rg) (w : World) :
    Calls Tryd.prog 20 #[x.v] w fun e w' => e = .returned (.int .i64 (chkR x)) ∧ Below w.heap.size w w' := by
  by_cases h0 : x.a < 0
  · have e1 : chkR x = 1 := by rw [chkR, if_neg (by unfold OkR; omega)]
    rw [e1]
    go_enter Tryd.func20, Tryd.ntmps20
    go_wp2
    go_ret
    exact ⟨rfl, alloc_below _ _⟩
  by_cases h1 : x.b < x.a
  · have e1 : chkR x = 1 := by rw [chkR, if_neg (by unfold OkR; omega)]
    rw [e1]
    go_enter Tryd.func20, Tryd.ntmps20
    go_wp2
    go_ret
    exact ⟨rfl, alloc_below _ _⟩
  by_cases h2 : x.c < x.b
  · have e1 : chkR x = 1 := by rw [chkR, if_neg (by unfold OkR; omega)]
    rw [e1]
    go_enter Tryd.func20, Tryd.ntmps20
    go_wp2
    go_ret
    exact ⟨rfl, alloc_below _ _⟩
  by_cases h3 : 7 < x.c
  · have e1 : chkR x = 1 := by rw [chkR, if_neg (by unfold OkR; omega)]
    rw [e1]
    go_enter Tryd.func20, Tryd.ntmps20
    go_wp2
    go_ret
    exact ⟨rfl, alloc_below _ _⟩
  by_cases h4 : x.g < 0
  · have e1 : chkR x = 1 := by rw [chkR, if_neg (by unfold OkR; omega)]
    rw [e1]
    go_enter Tryd.func20, Tryd.ntmps20
    go_wp2
    go_ret
    exact ⟨rfl, alloc_below _ _⟩
  by_cases h5 : 16 < x.g
  · have e1 : chkR x = 1 := by rw [chkR, if_neg (by unfold OkR; omega)]
    rw [e1]
    go_enter Tryd.func20, Tryd.ntmps20
    go_wp2
    go_ret
    exact ⟨rfl, alloc_below _ _⟩
  have e1 : chkR x = 0 := by rw [chkR, if_pos (by unfold OkR; omega)]
  rw [e1]
  go_enter Tryd.func20, Tryd.ntmps20
  go_wp2
  go_ret
  exact ⟨rfl, alloc_below _ _⟩
def fewN (n : Nod) : Bool := decide (n.path.size < 1000) && (decide (n.acl.length < 40) && decide (n.words.length < 100))
set_option maxHeartbeats 1000000 in
theorem few_any (n : Nod) (aa : Option Addr) (ca : Nat) (wa : Option Addr) (cw : Nat) (w : World) :
    Calls Tryd.prog 6 #[n.v aa ca wa cw] w fun e w' => e = .returned (.bool (fewN n)) ∧ Below w.heap.size w w' := by
  obtain ⟨b, hb⟩ : ∃ b, fewN n = b := ⟨_, rfl⟩
  rw [hb]
  unfold fewN at hb
  by_cases h1 : n.path.size < 1000
  · by_cases h2 : n.acl.length < 40
    · have hb2 : decide (n.words.length < 100) = b := by rw [← hb]; simp [h1, h2]
      have hb : Aside (decide (n.words.length < 100) = b) := hb2
      clear hb2
      have i1 : (n.path.size : Int) < 1000 := by omega
      have i2 : (n.acl.length : Int) < 40 := by omega
      go_enter Tryd.func6, Tryd.ntmps6
      go_wp2
      go_ret
      refine ⟨?_, alloc_below _ _⟩
      rw [← hb.out]
      simp
      omega
    · obtain rfl : b = false := by rw [← hb]; simp [h2]
      have i1 : (n.path.size : Int) < 1000 := by omega
      have i2 : ¬ (n.acl.length : Int) < 40 := by omega
      clear hb
      go_enter Tryd.func6, Tryd.ntmps6
      go_wp2
      go_ret
      exact ⟨rfl, alloc_below _ _⟩
  · obtain rfl : b = false := by rw [← hb]; simp [h1]
    have i1 : ¬ (n.path.size : Int) < 1000 := by omega
    clear hb
    go_enter Tryd.func6, Tryd.ntmps6
    go_wp2
    go_ret
    exact ⟨rfl, alloc_below _ _⟩

end Go.Proofs.YtenndocmpjmgiaaDoor
