/-
  P1401: entries at the bounds are taken, those beyond are refused, and leave nothing: the law's walk. Written by mk_audbounds.py.
-/
import Derived.Deep.RegionHeld
import Derived.Deep.CutBlock
import Derived.Laws.MakeOwn
import Derived.Test.YtohocomemkckeaaDoorPt2
import Derived.Test.YtohocomemkckeaaDoorPt3
namespace Go.Proofs.YtohocomemkckeaaDoor
open Go.RowKit
set_option maxRecDepth 8000
set_option linter.unusedSimpArgs false
set_option linter.unusedVariables false

def zeros (n : Nat) : ByteArray := ⟨(List.replicate n (0 : UInt8)).toArray⟩
theorem zeros_size (n : Nat) : (zeros n).size = n := by
  show ((List.replicate n (0 : UInt8)).toArray).size = n
  simp
/-- A row of noughts. -/
structure ZB (W : World) (b n : Nat) : Prop where
  lt : b < W.heap.size
  cell : ∀ j, j < n → W.cell? ⟨b, j, none⟩ = some (.int .u8 0)
theorem ZB.below {W W' : World} {b n : Nat} (h : ZB W b n) (k : Below W.heap.size W W') : ZB W' b n := ⟨Nat.lt_of_lt_of_le h.lt k.size, fun j hj => (k.cell (p := ⟨b, j, none⟩) h.lt).trans (h.cell j hj)⟩
theorem zb_make (W : World) (n : Nat) (hn : n ≤ 1000) : ∃ W', (Instr.makeSlice 44 (.int .i64 (n : Int)) (.int .i64 (n : Int))).run Tryd.prog W = .ok (.slice (some ⟨W.heap.size, 0, none⟩) n n) W' ∧ ZB W' W.heap.size n ∧ Below W.heap.size W W' := by
  obtain ⟨i, hi, hz, hs, hby⟩ := info_of (e := 5) (z := .int .u8 0) (sz := 1) (b := 1) (by kernel_rfl)
  have h := run_make (P := Tryd.prog) W 44 5 i _ Tryd.underlying44 hi hz .i64 .i64 n n (by omega) (by omega) (by rw [hby]; omega) (by omega)
  refine ⟨_, h, ⟨by simp, fun j hj => ?_⟩, alloc_below _ _⟩
  rw [World.cell?_alloc_at _ _ _ _ rfl]
  simp [madeCells, hs, Value.cells, hj, Nat.mod_one]
theorem ZB.conv {W : World} {b n : Nat} (h : ZB W b n) : (convert 44 9 (.slice (some ⟨b, 0, none⟩) n n)).run Tryd.prog W = .ok (.string (zeros n)) W := by
  have := run_convert_bytes_back (P := Tryd.prog) W 44 9 5 ⟨b, 0, none⟩ n (List.replicate n 0) Tryd.underlying44 Tryd.underlying5 Tryd.underlying9 (fun j hj => by
    rw [add_at, h.cell j (by simpa using hj)]
    simp)
  rw [List.length_replicate] at this
  exact this
section
variable {ops : Array Oper} {o : Oper} {a : Act} {w : World} {Q : Exit → Act → World → Prop} {T : TypeId}
theorem step_make {K : Act → World → Prop} {E : Prop} (hg : o.guard = none) (x y : Operand) (ho : o.op = .makeSlice T x y) {u v r : Value} {w' : World} (hx : a.eval x = u) (hy : a.eval y = v)
    (hrun : (Instr.makeSlice T u v).run Tryd.prog w = .ok r w') (hK : K (a.put o.dst r) w') :
    if Region.wanted o (yielded ops a.tmps) = true then Oper.wp Tryd.prog o a w K Q else E := by
  have hw : Region.wanted o (yielded ops a.tmps) = true := by simp [Region.wanted, hg]
  rw [if_pos hw]
  unfold Oper.wp
  simp [execOp, ho, hx, hy, hrun, Result.andThen]
  exact hK
theorem step_convB {K : Act → World → Prop} {E : Prop} {t u : TypeId} (hg : o.guard = none) (x : Operand) (ho : o.op = .convert t u x) {v r : Value} (hx : a.eval x = v)
    (hrun : (convert t u v).run Tryd.prog w = .ok r w) (hK : K (a.put o.dst r) w) :
    if Region.wanted o (yielded ops a.tmps) = true then Oper.wp Tryd.prog o a w K Q else E := by
  have hw : Region.wanted o (yielded ops a.tmps) = true := by simp [Region.wanted, hg]
  rw [if_pos hw]
  unfold Oper.wp
  simp [execOp, ho, hx, hrun, Result.andThen]
  exact hK
theorem step_one {K : Act → World → Prop} {E : Prop} (hg : o.guard = none) (x : Operand) (ho : o.op = .load T x) (y : Addr) (hx : a.eval x = .pointer (some y)) (v : Value) (hc : w.cell? y = some v) (hl : ∀ w y v, w.cell? y = some v → (Instr.loadAt T (.pointer (some y))).run Tryd.prog w = .ok v w) (hK : K (a.put o.dst v) w) :
    if Region.wanted o (yielded ops a.tmps) = true then Oper.wp Tryd.prog o a w K Q else E := by
  have hw : Region.wanted o (yielded ops a.tmps) = true := by simp [Region.wanted, hg]
  rw [if_pos hw]
  unfold Oper.wp
  simp [execOp, ho, hx, hl w y v hc, Result.andThen]
  exact hK
theorem step_store_one {K : Act → World → Prop} {E : Prop} (hg : o.guard = none) (x z : Operand) (ho : o.op = .store T x z) (y : Addr) (hx : a.eval x = .pointer (some y)) (v : Value) (hz : a.eval z = v) (u : Value) (hc : w.cell? y = some u) (hf : w.frozen? y = false) (hl : ∀ w y (u v : Value), (∃ s, v = .string s) → w.cell? y = some u → w.frozen? y = false → (Instr.storeAt T (.pointer (some y)) v).run Tryd.prog w = .ok () (w.setCell y v)) (hs : ∃ s, v = .string s) (hK : K (a.put o.dst undef) (w.setCell y v)) :
    if Region.wanted o (yielded ops a.tmps) = true then Oper.wp Tryd.prog o a w K Q else E := by
  have hw : Region.wanted o (yielded ops a.tmps) = true := by simp [Region.wanted, hg]
  rw [if_pos hw]
  unfold Oper.wp
  simp [execOp, ho, hx, hz, hl w y u v hs hc hf, Result.andThen]
  exact hK
end
def bE (z : ByteArray) : Ent := ⟨0, ⟨3, 255, 0, 0⟩, z, 14, z, 255⟩
theorem strP_store (w : World) (y : Addr) (u v : Value) (hs : ∃ s, v = .string s) (hc : w.cell? y = some u) (hf : w.frozen? y = false) : (Instr.storeAt 9 (.pointer (some y)) v).run Tryd.prog w = .ok () (w.setCell y v) := by
  obtain ⟨s, rfl⟩ := hs
  have h1 := Tryd.underlying9
  go_simp
theorem bE_may {z : ByteArray} (h : z.size = 78) : audMay (bE z) = 0 := may_zero.2 ⟨(show chkL ⟨3, 255, 0, 0⟩ = 0 by decide +kernel), (show (1 : Int) ≤ 14 by decide), (show (14 : Int) ≤ 14 by decide), by show z.size ≤ 78; omega, by show z.size ≤ 78; omega, (show (0 : Int) ≤ 255 by decide), (show (255 : Int) ≤ 255 by decide)⟩
abbrev lab3 : Lab := ⟨3, 255, 0, 0⟩
theorem lab3_GL : GL lab3 := by constructor <;> decide
theorem may_one {e : Ent} (h : audMay e ≠ 0) (st : List Ent) : audErr st e = 1 ∧ audAdd st e = st := by
  have h1 : audErr st e = 1 := by unfold audErr; rw [if_pos h]
  exact ⟨h1, by unfold audAdd; rw [if_neg (by rw [h1]; decide)]⟩
theorem one_st {z : ByteArray} (h : z.size = 78) : audErr [] (bE z) = 0 ∧ (audAll (audAdd [] (bE z)) lab3).length = 1 ∧ (audSeen (audAdd [] (bE z)) lab3).length = 1 ∧ (audAdd [] (bE z)).length = 1 := by
  have h0 : audErr [] (bE z) = 0 := err_zero.2 ⟨bE_may h, rfl⟩
  have h1 : audAdd [] (bE z) = [audNext [] (bE z)] := by
    unfold audAdd
    rw [if_pos h0]
    rfl
  rw [h1]
  refine ⟨h0, ?_, ?_, rfl⟩
  · have hq : labEq (audNext [] (bE z)).label lab3 = true := (labEq_iff _ _).2 rfl
    unfold audAll
    rw [List.filter_cons, if_pos hq]
    rfl
  · have hq : rov lab3 (audNext [] (bE z)).label = true := (show rov lab3 lab3 = true by decide +kernel)
    unfold audSeen
    rw [List.filter_cons, if_pos hq]
    rfl
set_option maxRecDepth 20000 in
set_option maxHeartbeats 8000000 in
theorem auditBounds_walk {I : World → Prop} {Q : World → List Nat → Addr → List Ent → Prop} (C : LogOk I Q) (which by_ : Int) (w : World) (hI : ∀ W, Below w.heap.size w W → I W) :
    Calls Tryd.prog 6 #[.int .i64 which, .int .i64 by_] w fun r w' => r = .returned (.bool true) ∧ Below w.heap.size w w' := by
  have hundL := Tryd.underlying23
  have hundE := Tryd.underlying26
  have hsl : (Tryd.prog.info? 23).map (·.size) = some 4 := by kernel_rfl
  have hse : (Tryd.prog.info? 26).map (·.size) = some 9 := by kernel_rfl
  obtain ⟨n, hn1, hn300, hbn⟩ : ∃ n : Nat, 1 ≤ n ∧ n ≤ 300 ∧ 1 + by_ % 300 = (n : Int) := ⟨(1 + by_ % 300).toNat, by omega, by omega, by omega⟩
  have kw := w14_any by_ 300 (by decide) (by decide)
  obtain ⟨b3, hb3⟩ : ∃ b3, by_ % 300 = b3 := ⟨_, rfl⟩
  have hwr : IntKind.i64.wrap (1 + b3) = (n : Int) := by rw [IntKind.wrap_i64]; omega
  rw [hb3] at kw
  obtain ⟨q6, hq6, hq60, hq65⟩ : ∃ q6 : Int, which % 6 = q6 ∧ 0 ≤ q6 ∧ q6 ≤ 5 := ⟨_, rfl, by omega, by omega⟩
  have kw6 := w14_any which 6 (by decide) (by decide)
  rw [hq6] at kw6
  obtain ⟨z, hz⟩ : ∃ z, zeros 78 = z := ⟨_, rfl⟩
  have hz78 : z.size = 78 := by rw [← hz]; exact zeros_size 78
  have hcv : ∀ (W : World) (b : Nat), ZB W b 78 → (convert 44 9 (.slice (some ⟨b, 0, none⟩) 78 78)).run Tryd.prog W = .ok (.string z) W := fun W b h => by rw [← hz]; exact h.conv
  obtain ⟨zn, hzn⟩ : ∃ zn, zeros n = zn := ⟨_, rfl⟩
  have hznn : zn.size = n := by rw [← hzn]; exact zeros_size n
  have hcn : ∀ (W : World) (b : Nat), ZB W b n → (convert 44 9 (.slice (some ⟨b, 0, none⟩) n n)).run Tryd.prog W = .ok (.string zn) W := fun W b h => by rw [← hzn]; exact h.conv
  clear hz hzn hq6 hb3
  have hbn2 : 1 + b3 = (n : Int) ∨ True := .inr trivial
  clear hbn hbn2
  go_enter Tryd.func6, Tryd.ntmps6
  go_wp2_with fail
  refine (aknown_any C w (hI _ (Below.refl _ _))).mono ?_
  rintro r W1 ⟨rfl, hB1⟩
  go_wp2_with fail
  refine (kw W1).mono ?_
  rintro r W1' ⟨rfl, hW1⟩
  replace hW1 := hW1.symm
  subst hW1
  go_upto_region 4 with fail
  obtain ⟨Z, hZZ⟩ : ∃ Z, Z = W1 := ⟨_, rfl⟩
  rw [← hZZ] at hB1 ⊢
  clear hZZ
  go_cut [5] from 6 (fun s5 wc => ∃ g : Nat, Z.heap.size ≤ g ∧ s5 = .pointer (some ⟨g, 0, none⟩) ∧ BlkL g (ecs (bE z)) wc ∧ Below Z.heap.size Z wc)
  case first =>
    have hS0 : Below Z.heap.size Z Z.drew := (Below.refl _ _).drew
    clear kw kw6 hwr
    refine wp_region_held_drew (S := (fun _ => True)) (by kernel_rfl) (trivial) ?_
    intro hHeld
    generalize Z.drew = w0 at *
    refine wpAnyH_take (i := 0) (v := ?_) (by simp only [gA, gB, gC]; rfl) (by kernel_rfl) (by kernel_rfl) (by kernel_rfl) (by exact fun _ _ _ h => h) (Or.inl ⟨by rfl, ?_⟩) (by assumption) ?_; rotate_left; (focus (intro w hSw; (try dsimp only at hSw); go_simp; try with_reducible rfl)); (try simp only [Act.put, sA, sB, sC])
    refine wpAnyH_ready (rs := [1, 3, 6]) (by kernel_rfl) (by simp) ?_
    refine AllReadyH.cons (by simp only [gA, gB, gC]; rfl) (fun K hK => ?_) ?_
    · skip
      obtain ⟨w1, hrun, hz1_1, hb⟩ := zb_make w0 78 (by decide)
      have hS1 := Below.then hS0 hb
      refine step_make rfl _ _ rfl rfl rfl hrun ?_
      (try simp only [Act.put, sA, sB, sC])
      refine hK.out _ _ (trivial) ?_
      clear hHeld hK
      intro hHeld
      clear hb hrun
      generalize w0.heap.size = pz1 at *
      (try simp only [Act.put, sA, sB, sC])
      refine wpAnyH_ready (rs := [2, 3, 6]) (by kernel_rfl) (by simp) ?_
      refine AllReadyH.cons (by simp only [gA, gB, gC]; rfl) (fun K hK => ?_) ?_
      · skip
        refine step_convB rfl _ rfl rfl (hcv _ _ hz1_1) ?_
        (try simp only [Act.put, sA, sB, sC])
        refine hK.out _ _ (trivial) ?_
        clear hHeld hK
        intro hHeld
        (try simp only [Act.put, sA, sB, sC])
        refine wpAnyH_ready (rs := [3, 6]) (by kernel_rfl) (by simp) ?_
        refine AllReadyH.cons (by simp only [gA, gB, gC]; rfl) (fun K hK => ?_) ?_
        · skip
          obtain ⟨w2, hrun, hz3_2, hb⟩ := zb_make w1 78 (by decide)
          have hS2 := Below.then hS1 hb
          refine step_make rfl _ _ rfl rfl rfl hrun ?_
          (try simp only [Act.put, sA, sB, sC])
          refine hK.out _ _ (trivial) ?_
          clear hHeld hK
          intro hHeld
          clear hb hrun
          generalize w1.heap.size = pz3 at *
          (try simp only [Act.put, sA, sB, sC])
          refine wpAnyH_ready (rs := [4, 6]) (by kernel_rfl) (by simp) ?_
          refine AllReadyH.cons (by simp only [gA, gB, gC]; rfl) (fun K hK => ?_) ?_
          · skip
            refine step_convB rfl _ rfl rfl (hcv _ _ hz3_2) ?_
            (try simp only [Act.put, sA, sB, sC])
            refine hK.out _ _ (trivial) ?_
            clear hHeld hK
            intro hHeld
            (try simp only [Act.put, sA, sB, sC])
            refine wpAnyH_take (i := 5) (v := ?_) (by simp only [gA, gB, gC]; rfl) (by kernel_rfl) (by kernel_rfl) (by kernel_rfl) (by exact fun _ _ _ h => h) (Or.inl ⟨by rfl, ?_⟩) (by assumption) ?_; rotate_left; (focus (intro w hSw; (try dsimp only at hSw); go_simp; try with_reducible rfl)); (try simp only [Act.put, sA, sB, sC])
            refine wpAnyH_ready (rs := [6]) (by kernel_rfl) (by simp) ?_
            refine AllReadyH.cons (by simp only [gA, gB, gC]; rfl) (fun K hK => ?_) AllReadyH.nil
            go_simp
            refine hK.out _ _ (trivial) ?_
            clear hHeld hK
            intro hHeld
            have hb := alloc_below w2 (.cells zE 26)
            have hn3 := blkl_alloc w2 zE 26
            have hbnZ : Z.heap.size ≤ w2.heap.size := hS2.size
            have hS3 := Below.then hS2 hb
            generalize hwx : w2.alloc (.cells zE 26) = w3 at *
            clear hwx hb
            generalize w2.heap.size = bn at *
            (try simp only [Act.put, sA, sB, sC])
            refine wpAnyH_ready (rs := [7]) (by kernel_rfl) (by simp) ?_
            refine AllReadyH.cons (by simp only [gA, gB, gC]; rfl) (fun K hK => ?_) AllReadyH.nil
            obtain ⟨w4, hwz, hthz, hn4, hS4⟩ := put_mid hn3 0 (ecs (bE z)) (by show 0 + 9 ≤ 9; decide) (by decide) hS3 hbnZ
            replace hn4 : BlkL bn (ecs (bE z)) w4 := hn4
            refine step_store_part rfl _ _ rfl bn 0 rfl (ecs (bE z)) rfl hthz hse (ent_one _) hwz ?_
            (try simp only [Act.put, sA, sB, sC])
            refine hK.out _ _ (trivial) ?_
            clear hHeld hK
            intro hHeld
            clear hwz hthz
            (try simp only [Act.put, sA, sB, sC])
            refine wpAnyH_done (by kernel_rfl) ?_ _
            go_wp2_with fail
            go_meet
            exact ⟨bn, hbnZ, rfl, hn4, hS4⟩
          refine AllReadyH.cons (by simp only [gA, gB, gC]; rfl) (fun K hK => ?_) AllReadyH.nil
          go_simp
          refine hK.out _ _ (trivial) ?_
          clear hHeld hK
          intro hHeld
          have hb := alloc_below w2 (.cells zE 26)
          have hn3 := blkl_alloc w2 zE 26
          have hbnZ : Z.heap.size ≤ w2.heap.size := hS2.size
          have hS3 := Below.then hS2 hb
          have hz3_3 := hz3_2.below hb
          generalize hwx : w2.alloc (.cells zE 26) = w3 at *
          clear hwx hb
          generalize w2.heap.size = bn at *
          (try simp only [Act.put, sA, sB, sC])
          refine wpAnyH_ready (rs := [4]) (by kernel_rfl) (by simp) ?_
          refine AllReadyH.cons (by simp only [gA, gB, gC]; rfl) (fun K hK => ?_) AllReadyH.nil
          refine step_convB rfl _ rfl rfl (hcv _ _ hz3_3) ?_
          (try simp only [Act.put, sA, sB, sC])
          refine hK.out _ _ (trivial) ?_
          clear hHeld hK
          intro hHeld
          (try simp only [Act.put, sA, sB, sC])
          refine wpAnyH_take (i := 5) (v := ?_) (by simp only [gA, gB, gC]; rfl) (by kernel_rfl) (by kernel_rfl) (by kernel_rfl) (by exact fun _ _ _ h => h) (Or.inl ⟨by rfl, ?_⟩) (by assumption) ?_; rotate_left; (focus (intro w hSw; (try dsimp only at hSw); go_simp; try with_reducible rfl)); (try simp only [Act.put, sA, sB, sC])
          refine wpAnyH_ready (rs := [7]) (by kernel_rfl) (by simp) ?_
          refine AllReadyH.cons (by simp only [gA, gB, gC]; rfl) (fun K hK => ?_) AllReadyH.nil
          obtain ⟨w4, hwz, hthz, hn4, hS4⟩ := put_mid hn3 0 (ecs (bE z)) (by show 0 + 9 ≤ 9; decide) (by decide) hS3 hbnZ
          replace hn4 : BlkL bn (ecs (bE z)) w4 := hn4
          refine step_store_part rfl _ _ rfl bn 0 rfl (ecs (bE z)) rfl hthz hse (ent_one _) hwz ?_
          (try simp only [Act.put, sA, sB, sC])
          refine hK.out _ _ (trivial) ?_
          clear hHeld hK
          intro hHeld
          clear hwz hthz
          (try simp only [Act.put, sA, sB, sC])
          refine wpAnyH_done (by kernel_rfl) ?_ _
          go_wp2_with fail
          go_meet
          exact ⟨bn, hbnZ, rfl, hn4, hS4⟩
        refine AllReadyH.cons (by simp only [gA, gB, gC]; rfl) (fun K hK => ?_) AllReadyH.nil
        go_simp
        refine hK.out _ _ (trivial) ?_
        clear hHeld hK
        intro hHeld
        have hb := alloc_below w1 (.cells zE 26)
        have hn2 := blkl_alloc w1 zE 26
        have hbnZ : Z.heap.size ≤ w1.heap.size := hS1.size
        have hS2 := Below.then hS1 hb
        generalize hwx : w1.alloc (.cells zE 26) = w2 at *
        clear hwx hb
        generalize w1.heap.size = bn at *
        (try simp only [Act.put, sA, sB, sC])
        refine wpAnyH_ready (rs := [3]) (by kernel_rfl) (by simp) ?_
        refine AllReadyH.cons (by simp only [gA, gB, gC]; rfl) (fun K hK => ?_) AllReadyH.nil
        obtain ⟨w3, hrun, hz3_3, hb⟩ := zb_make w2 78 (by decide)
        have hS3 := Below.then hS2 hb
        have hn3 := stab_blk _ _ _ _ hn2 hb
        refine step_make rfl _ _ rfl rfl rfl hrun ?_
        (try simp only [Act.put, sA, sB, sC])
        refine hK.out _ _ (trivial) ?_
        clear hHeld hK
        intro hHeld
        clear hb hrun
        generalize w2.heap.size = pz3 at *
        (try simp only [Act.put, sA, sB, sC])
        refine wpAnyH_ready (rs := [4]) (by kernel_rfl) (by simp) ?_
        refine AllReadyH.cons (by simp only [gA, gB, gC]; rfl) (fun K hK => ?_) AllReadyH.nil
        refine step_convB rfl _ rfl rfl (hcv _ _ hz3_3) ?_
        (try simp only [Act.put, sA, sB, sC])
        refine hK.out _ _ (trivial) ?_
        clear hHeld hK
        intro hHeld
        (try simp only [Act.put, sA, sB, sC])
        refine wpAnyH_take (i := 5) (v := ?_) (by simp only [gA, gB, gC]; rfl) (by kernel_rfl) (by kernel_rfl) (by kernel_rfl) (by exact fun _ _ _ h => h) (Or.inl ⟨by rfl, ?_⟩) (by assumption) ?_; rotate_left; (focus (intro w hSw; (try dsimp only at hSw); go_simp; try with_reducible rfl)); (try simp only [Act.put, sA, sB, sC])
        refine wpAnyH_ready (rs := [7]) (by kernel_rfl) (by simp) ?_
        refine AllReadyH.cons (by simp only [gA, gB, gC]; rfl) (fun K hK => ?_) AllReadyH.nil
        obtain ⟨w4, hwz, hthz, hn4, hS4⟩ := put_mid hn3 0 (ecs (bE z)) (by show 0 + 9 ≤ 9; decide) (by decide) hS3 hbnZ
        replace hn4 : BlkL bn (ecs (bE z)) w4 := hn4
        refine step_store_part rfl _ _ rfl bn 0 rfl (ecs (bE z)) rfl hthz hse (ent_one _) hwz ?_
        (try simp only [Act.put, sA, sB, sC])
        refine hK.out _ _ (trivial) ?_
        clear hHeld hK
        intro hHeld
        clear hwz hthz
        (try simp only [Act.put, sA, sB, sC])
        refine wpAnyH_done (by kernel_rfl) ?_ _
        go_wp2_with fail
        go_meet
        exact ⟨bn, hbnZ, rfl, hn4, hS4⟩
      refine AllReadyH.cons (by simp only [gA, gB, gC]; rfl) (fun K hK => ?_) ?_
      · skip
        obtain ⟨w2, hrun, hz3_2, hb⟩ := zb_make w1 78 (by decide)
        have hS2 := Below.then hS1 hb
        have hz1_2 := hz1_1.below hb
        refine step_make rfl _ _ rfl rfl rfl hrun ?_
        (try simp only [Act.put, sA, sB, sC])
        refine hK.out _ _ (trivial) ?_
        clear hHeld hK
        intro hHeld
        clear hb hrun
        generalize w1.heap.size = pz3 at *
        (try simp only [Act.put, sA, sB, sC])
        refine wpAnyH_ready (rs := [2, 4, 6]) (by kernel_rfl) (by simp) ?_
        refine AllReadyH.cons (by simp only [gA, gB, gC]; rfl) (fun K hK => ?_) ?_
        · skip
          refine step_convB rfl _ rfl rfl (hcv _ _ hz1_2) ?_
          (try simp only [Act.put, sA, sB, sC])
          refine hK.out _ _ (trivial) ?_
          clear hHeld hK
          intro hHeld
          (try simp only [Act.put, sA, sB, sC])
          refine wpAnyH_ready (rs := [4, 6]) (by kernel_rfl) (by simp) ?_
          refine AllReadyH.cons (by simp only [gA, gB, gC]; rfl) (fun K hK => ?_) ?_
          · skip
            refine step_convB rfl _ rfl rfl (hcv _ _ hz3_2) ?_
            (try simp only [Act.put, sA, sB, sC])
            refine hK.out _ _ (trivial) ?_
            clear hHeld hK
            intro hHeld
            (try simp only [Act.put, sA, sB, sC])
            refine wpAnyH_take (i := 5) (v := ?_) (by simp only [gA, gB, gC]; rfl) (by kernel_rfl) (by kernel_rfl) (by kernel_rfl) (by exact fun _ _ _ h => h) (Or.inl ⟨by rfl, ?_⟩) (by assumption) ?_; rotate_left; (focus (intro w hSw; (try dsimp only at hSw); go_simp; try with_reducible rfl)); (try simp only [Act.put, sA, sB, sC])
            refine wpAnyH_ready (rs := [6]) (by kernel_rfl) (by simp) ?_
            refine AllReadyH.cons (by simp only [gA, gB, gC]; rfl) (fun K hK => ?_) AllReadyH.nil
            go_simp
            refine hK.out _ _ (trivial) ?_
            clear hHeld hK
            intro hHeld
            have hb := alloc_below w2 (.cells zE 26)
            have hn3 := blkl_alloc w2 zE 26
            have hbnZ : Z.heap.size ≤ w2.heap.size := hS2.size
            have hS3 := Below.then hS2 hb
            generalize hwx : w2.alloc (.cells zE 26) = w3 at *
            clear hwx hb
            generalize w2.heap.size = bn at *
            (try simp only [Act.put, sA, sB, sC])
            refine wpAnyH_ready (rs := [7]) (by kernel_rfl) (by simp) ?_
            refine AllReadyH.cons (by simp only [gA, gB, gC]; rfl) (fun K hK => ?_) AllReadyH.nil
            obtain ⟨w4, hwz, hthz, hn4, hS4⟩ := put_mid hn3 0 (ecs (bE z)) (by show 0 + 9 ≤ 9; decide) (by decide) hS3 hbnZ
            replace hn4 : BlkL bn (ecs (bE z)) w4 := hn4
            refine step_store_part rfl _ _ rfl bn 0 rfl (ecs (bE z)) rfl hthz hse (ent_one _) hwz ?_
            (try simp only [Act.put, sA, sB, sC])
            refine hK.out _ _ (trivial) ?_
            clear hHeld hK
            intro hHeld
            clear hwz hthz
            (try simp only [Act.put, sA, sB, sC])
            refine wpAnyH_done (by kernel_rfl) ?_ _
            go_wp2_with fail
            go_meet
            exact ⟨bn, hbnZ, rfl, hn4, hS4⟩
          refine AllReadyH.cons (by simp only [gA, gB, gC]; rfl) (fun K hK => ?_) AllReadyH.nil
          go_simp
          refine hK.out _ _ (trivial) ?_
          clear hHeld hK
          intro hHeld
          have hb := alloc_below w2 (.cells zE 26)
          have hn3 := blkl_alloc w2 zE 26
          have hbnZ : Z.heap.size ≤ w2.heap.size := hS2.size
          have hS3 := Below.then hS2 hb
          have hz3_3 := hz3_2.below hb
          generalize hwx : w2.alloc (.cells zE 26) = w3 at *
          clear hwx hb
          generalize w2.heap.size = bn at *
          (try simp only [Act.put, sA, sB, sC])
          refine wpAnyH_ready (rs := [4]) (by kernel_rfl) (by simp) ?_
          refine AllReadyH.cons (by simp only [gA, gB, gC]; rfl) (fun K hK => ?_) AllReadyH.nil
          refine step_convB rfl _ rfl rfl (hcv _ _ hz3_3) ?_
          (try simp only [Act.put, sA, sB, sC])
          refine hK.out _ _ (trivial) ?_
          clear hHeld hK
          intro hHeld
          (try simp only [Act.put, sA, sB, sC])
          refine wpAnyH_take (i := 5) (v := ?_) (by simp only [gA, gB, gC]; rfl) (by kernel_rfl) (by kernel_rfl) (by kernel_rfl) (by exact fun _ _ _ h => h) (Or.inl ⟨by rfl, ?_⟩) (by assumption) ?_; rotate_left; (focus (intro w hSw; (try dsimp only at hSw); go_simp; try with_reducible rfl)); (try simp only [Act.put, sA, sB, sC])
          refine wpAnyH_ready (rs := [7]) (by kernel_rfl) (by simp) ?_
          refine AllReadyH.cons (by simp only [gA, gB, gC]; rfl) (fun K hK => ?_) AllReadyH.nil
          obtain ⟨w4, hwz, hthz, hn4, hS4⟩ := put_mid hn3 0 (ecs (bE z)) (by show 0 + 9 ≤ 9; decide) (by decide) hS3 hbnZ
          replace hn4 : BlkL bn (ecs (bE z)) w4 := hn4
          refine step_store_part rfl _ _ rfl bn 0 rfl (ecs (bE z)) rfl hthz hse (ent_one _) hwz ?_
          (try simp only [Act.put, sA, sB, sC])
          refine hK.out _ _ (trivial) ?_
          clear hHeld hK
          intro hHeld
          clear hwz hthz
          (try simp only [Act.put, sA, sB, sC])
          refine wpAnyH_done (by kernel_rfl) ?_ _
          go_wp2_with fail
          go_meet
          exact ⟨bn, hbnZ, rfl, hn4, hS4⟩
        refine AllReadyH.cons (by simp only [gA, gB, gC]; rfl) (fun K hK => ?_) ?_
        · skip
          refine step_convB rfl _ rfl rfl (hcv _ _ hz3_2) ?_
          (try simp only [Act.put, sA, sB, sC])
          refine hK.out _ _ (trivial) ?_
          clear hHeld hK
          intro hHeld
          (try simp only [Act.put, sA, sB, sC])
          refine wpAnyH_ready (rs := [2, 6]) (by kernel_rfl) (by simp) ?_
          refine AllReadyH.cons (by simp only [gA, gB, gC]; rfl) (fun K hK => ?_) ?_
          · skip
            refine step_convB rfl _ rfl rfl (hcv _ _ hz1_2) ?_
            (try simp only [Act.put, sA, sB, sC])
            refine hK.out _ _ (trivial) ?_
            clear hHeld hK
            intro hHeld
            (try simp only [Act.put, sA, sB, sC])
            refine wpAnyH_take (i := 5) (v := ?_) (by simp only [gA, gB, gC]; rfl) (by kernel_rfl) (by kernel_rfl) (by kernel_rfl) (by exact fun _ _ _ h => h) (Or.inl ⟨by rfl, ?_⟩) (by assumption) ?_; rotate_left; (focus (intro w hSw; (try dsimp only at hSw); go_simp; try with_reducible rfl)); (try simp only [Act.put, sA, sB, sC])
            refine wpAnyH_ready (rs := [6]) (by kernel_rfl) (by simp) ?_
            refine AllReadyH.cons (by simp only [gA, gB, gC]; rfl) (fun K hK => ?_) AllReadyH.nil
            go_simp
            refine hK.out _ _ (trivial) ?_
            clear hHeld hK
            intro hHeld
            have hb := alloc_below w2 (.cells zE 26)
            have hn3 := blkl_alloc w2 zE 26
            have hbnZ : Z.heap.size ≤ w2.heap.size := hS2.size
            have hS3 := Below.then hS2 hb
            generalize hwx : w2.alloc (.cells zE 26) = w3 at *
            clear hwx hb
            generalize w2.heap.size = bn at *
            (try simp only [Act.put, sA, sB, sC])
            refine wpAnyH_ready (rs := [7]) (by kernel_rfl) (by simp) ?_
            refine AllReadyH.cons (by simp only [gA, gB, gC]; rfl) (fun K hK => ?_) AllReadyH.nil
            obtain ⟨w4, hwz, hthz, hn4, hS4⟩ := put_mid hn3 0 (ecs (bE z)) (by show 0 + 9 ≤ 9; decide) (by decide) hS3 hbnZ
            replace hn4 : BlkL bn (ecs (bE z)) w4 := hn4
            refine step_store_part rfl _ _ rfl bn 0 rfl (ecs (bE z)) rfl hthz hse (ent_one _) hwz ?_
            (try simp only [Act.put, sA, sB, sC])
            refine hK.out _ _ (trivial) ?_
            clear hHeld hK
            intro hHeld
            clear hwz hthz
            (try simp only [Act.put, sA, sB, sC])
            refine wpAnyH_done (by kernel_rfl) ?_ _
            go_wp2_with fail
            go_meet
            exact ⟨bn, hbnZ, rfl, hn4, hS4⟩
          refine AllReadyH.cons (by simp only [gA, gB, gC]; rfl) (fun K hK => ?_) AllReadyH.nil
          go_simp
          refine hK.out _ _ (trivial) ?_
          clear hHeld hK
          intro hHeld
          have hb := alloc_below w2 (.cells zE 26)
          have hn3 := blkl_alloc w2 zE 26
          have hbnZ : Z.heap.size ≤ w2.heap.size := hS2.size
          have hS3 := Below.then hS2 hb
          have hz1_3 := hz1_2.below hb
          generalize hwx : w2.alloc (.cells zE 26) = w3 at *
          clear hwx hb
          generalize w2.heap.size = bn at *
          (try simp only [Act.put, sA, sB, sC])
          refine wpAnyH_ready (rs := [2]) (by kernel_rfl) (by simp) ?_
          refine AllReadyH.cons (by simp only [gA, gB, gC]; rfl) (fun K hK => ?_) AllReadyH.nil
          refine step_convB rfl _ rfl rfl (hcv _ _ hz1_3) ?_
          (try simp only [Act.put, sA, sB, sC])
          refine hK.out _ _ (trivial) ?_
          clear hHeld hK
          intro hHeld
          (try simp only [Act.put, sA, sB, sC])
          refine wpAnyH_take (i := 5) (v := ?_) (by simp only [gA, gB, gC]; rfl) (by kernel_rfl) (by kernel_rfl) (by kernel_rfl) (by exact fun _ _ _ h => h) (Or.inl ⟨by rfl, ?_⟩) (by assumption) ?_; rotate_left; (focus (intro w hSw; (try dsimp only at hSw); go_simp; try with_reducible rfl)); (try simp only [Act.put, sA, sB, sC])
          refine wpAnyH_ready (rs := [7]) (by kernel_rfl) (by simp) ?_
          refine AllReadyH.cons (by simp only [gA, gB, gC]; rfl) (fun K hK => ?_) AllReadyH.nil
          obtain ⟨w4, hwz, hthz, hn4, hS4⟩ := put_mid hn3 0 (ecs (bE z)) (by show 0 + 9 ≤ 9; decide) (by decide) hS3 hbnZ
          replace hn4 : BlkL bn (ecs (bE z)) w4 := hn4
          refine step_store_part rfl _ _ rfl bn 0 rfl (ecs (bE z)) rfl hthz hse (ent_one _) hwz ?_
          (try simp only [Act.put, sA, sB, sC])
          refine hK.out _ _ (trivial) ?_
          clear hHeld hK
          intro hHeld
          clear hwz hthz
          (try simp only [Act.put, sA, sB, sC])
          refine wpAnyH_done (by kernel_rfl) ?_ _
          go_wp2_with fail
          go_meet
          exact ⟨bn, hbnZ, rfl, hn4, hS4⟩
        refine AllReadyH.cons (by simp only [gA, gB, gC]; rfl) (fun K hK => ?_) AllReadyH.nil
        go_simp
        refine hK.out _ _ (trivial) ?_
        clear hHeld hK
        intro hHeld
        have hb := alloc_below w2 (.cells zE 26)
        have hn3 := blkl_alloc w2 zE 26
        have hbnZ : Z.heap.size ≤ w2.heap.size := hS2.size
        have hS3 := Below.then hS2 hb
        have hz1_3 := hz1_2.below hb
        have hz3_3 := hz3_2.below hb
        generalize hwx : w2.alloc (.cells zE 26) = w3 at *
        clear hwx hb
        generalize w2.heap.size = bn at *
        (try simp only [Act.put, sA, sB, sC])
        refine wpAnyH_ready (rs := [2, 4]) (by kernel_rfl) (by simp) ?_
        refine AllReadyH.cons (by simp only [gA, gB, gC]; rfl) (fun K hK => ?_) ?_
        · skip
          refine step_convB rfl _ rfl rfl (hcv _ _ hz1_3) ?_
          (try simp only [Act.put, sA, sB, sC])
          refine hK.out _ _ (trivial) ?_
          clear hHeld hK
          intro hHeld
          (try simp only [Act.put, sA, sB, sC])
          refine wpAnyH_ready (rs := [4]) (by kernel_rfl) (by simp) ?_
          refine AllReadyH.cons (by simp only [gA, gB, gC]; rfl) (fun K hK => ?_) AllReadyH.nil
          refine step_convB rfl _ rfl rfl (hcv _ _ hz3_3) ?_
          (try simp only [Act.put, sA, sB, sC])
          refine hK.out _ _ (trivial) ?_
          clear hHeld hK
          intro hHeld
          (try simp only [Act.put, sA, sB, sC])
          refine wpAnyH_take (i := 5) (v := ?_) (by simp only [gA, gB, gC]; rfl) (by kernel_rfl) (by kernel_rfl) (by kernel_rfl) (by exact fun _ _ _ h => h) (Or.inl ⟨by rfl, ?_⟩) (by assumption) ?_; rotate_left; (focus (intro w hSw; (try dsimp only at hSw); go_simp; try with_reducible rfl)); (try simp only [Act.put, sA, sB, sC])
          refine wpAnyH_ready (rs := [7]) (by kernel_rfl) (by simp) ?_
          refine AllReadyH.cons (by simp only [gA, gB, gC]; rfl) (fun K hK => ?_) AllReadyH.nil
          obtain ⟨w4, hwz, hthz, hn4, hS4⟩ := put_mid hn3 0 (ecs (bE z)) (by show 0 + 9 ≤ 9; decide) (by decide) hS3 hbnZ
          replace hn4 : BlkL bn (ecs (bE z)) w4 := hn4
          refine step_store_part rfl _ _ rfl bn 0 rfl (ecs (bE z)) rfl hthz hse (ent_one _) hwz ?_
          (try simp only [Act.put, sA, sB, sC])
          refine hK.out _ _ (trivial) ?_
          clear hHeld hK
          intro hHeld
          clear hwz hthz
          (try simp only [Act.put, sA, sB, sC])
          refine wpAnyH_done (by kernel_rfl) ?_ _
          go_wp2_with fail
          go_meet
          exact ⟨bn, hbnZ, rfl, hn4, hS4⟩
        refine AllReadyH.cons (by simp only [gA, gB, gC]; rfl) (fun K hK => ?_) AllReadyH.nil
        refine step_convB rfl _ rfl rfl (hcv _ _ hz3_3) ?_
        (try simp only [Act.put, sA, sB, sC])
        refine hK.out _ _ (trivial) ?_
        clear hHeld hK
        intro hHeld
        (try simp only [Act.put, sA, sB, sC])
        refine wpAnyH_ready (rs := [2]) (by kernel_rfl) (by simp) ?_
        refine AllReadyH.cons (by simp only [gA, gB, gC]; rfl) (fun K hK => ?_) AllReadyH.nil
        refine step_convB rfl _ rfl rfl (hcv _ _ hz1_3) ?_
        (try simp only [Act.put, sA, sB, sC])
        refine hK.out _ _ (trivial) ?_
        clear hHeld hK
        intro hHeld
        (try simp only [Act.put, sA, sB, sC])
        refine wpAnyH_take (i := 5) (v := ?_) (by simp only [gA, gB, gC]; rfl) (by kernel_rfl) (by kernel_rfl) (by kernel_rfl) (by exact fun _ _ _ h => h) (Or.inl ⟨by rfl, ?_⟩) (by assumption) ?_; rotate_left; (focus (intro w hSw; (try dsimp only at hSw); go_simp; try with_reducible rfl)); (try simp only [Act.put, sA, sB, sC])
        refine wpAnyH_ready (rs := [7]) (by kernel_rfl) (by simp) ?_
        refine AllReadyH.cons (by simp only [gA, gB, gC]; rfl) (fun K hK => ?_) AllReadyH.nil
        obtain ⟨w4, hwz, hthz, hn4, hS4⟩ := put_mid hn3 0 (ecs (bE z)) (by show 0 + 9 ≤ 9; decide) (by decide) hS3 hbnZ
        replace hn4 : BlkL bn (ecs (bE z)) w4 := hn4
        refine step_store_part rfl _ _ rfl bn 0 rfl (ecs (bE z)) rfl hthz hse (ent_one _) hwz ?_
        (try simp only [Act.put, sA, sB, sC])
        refine hK.out _ _ (trivial) ?_
        clear hHeld hK
        intro hHeld
        clear hwz hthz
        (try simp only [Act.put, sA, sB, sC])
        refine wpAnyH_done (by kernel_rfl) ?_ _
        go_wp2_with fail
        go_meet
        exact ⟨bn, hbnZ, rfl, hn4, hS4⟩
      refine AllReadyH.cons (by simp only [gA, gB, gC]; rfl) (fun K hK => ?_) AllReadyH.nil
      go_simp
      refine hK.out _ _ (trivial) ?_
      clear hHeld hK
      intro hHeld
      have hb := alloc_below w1 (.cells zE 26)
      have hn2 := blkl_alloc w1 zE 26
      have hbnZ : Z.heap.size ≤ w1.heap.size := hS1.size
      have hS2 := Below.then hS1 hb
      have hz1_2 := hz1_1.below hb
      generalize hwx : w1.alloc (.cells zE 26) = w2 at *
      clear hwx hb
      generalize w1.heap.size = bn at *
      (try simp only [Act.put, sA, sB, sC])
      refine wpAnyH_ready (rs := [2, 3]) (by kernel_rfl) (by simp) ?_
      refine AllReadyH.cons (by simp only [gA, gB, gC]; rfl) (fun K hK => ?_) ?_
      · skip
        refine step_convB rfl _ rfl rfl (hcv _ _ hz1_2) ?_
        (try simp only [Act.put, sA, sB, sC])
        refine hK.out _ _ (trivial) ?_
        clear hHeld hK
        intro hHeld
        (try simp only [Act.put, sA, sB, sC])
        refine wpAnyH_ready (rs := [3]) (by kernel_rfl) (by simp) ?_
        refine AllReadyH.cons (by simp only [gA, gB, gC]; rfl) (fun K hK => ?_) AllReadyH.nil
        obtain ⟨w3, hrun, hz3_3, hb⟩ := zb_make w2 78 (by decide)
        have hS3 := Below.then hS2 hb
        have hn3 := stab_blk _ _ _ _ hn2 hb
        refine step_make rfl _ _ rfl rfl rfl hrun ?_
        (try simp only [Act.put, sA, sB, sC])
        refine hK.out _ _ (trivial) ?_
        clear hHeld hK
        intro hHeld
        clear hb hrun
        generalize w2.heap.size = pz3 at *
        (try simp only [Act.put, sA, sB, sC])
        refine wpAnyH_ready (rs := [4]) (by kernel_rfl) (by simp) ?_
        refine AllReadyH.cons (by simp only [gA, gB, gC]; rfl) (fun K hK => ?_) AllReadyH.nil
        refine step_convB rfl _ rfl rfl (hcv _ _ hz3_3) ?_
        (try simp only [Act.put, sA, sB, sC])
        refine hK.out _ _ (trivial) ?_
        clear hHeld hK
        intro hHeld
        (try simp only [Act.put, sA, sB, sC])
        refine wpAnyH_take (i := 5) (v := ?_) (by simp only [gA, gB, gC]; rfl) (by kernel_rfl) (by kernel_rfl) (by kernel_rfl) (by exact fun _ _ _ h => h) (Or.inl ⟨by rfl, ?_⟩) (by assumption) ?_; rotate_left; (focus (intro w hSw; (try dsimp only at hSw); go_simp; try with_reducible rfl)); (try simp only [Act.put, sA, sB, sC])
        refine wpAnyH_ready (rs := [7]) (by kernel_rfl) (by simp) ?_
        refine AllReadyH.cons (by simp only [gA, gB, gC]; rfl) (fun K hK => ?_) AllReadyH.nil
        obtain ⟨w4, hwz, hthz, hn4, hS4⟩ := put_mid hn3 0 (ecs (bE z)) (by show 0 + 9 ≤ 9; decide) (by decide) hS3 hbnZ
        replace hn4 : BlkL bn (ecs (bE z)) w4 := hn4
        refine step_store_part rfl _ _ rfl bn 0 rfl (ecs (bE z)) rfl hthz hse (ent_one _) hwz ?_
        (try simp only [Act.put, sA, sB, sC])
        refine hK.out _ _ (trivial) ?_
        clear hHeld hK
        intro hHeld
        clear hwz hthz
        (try simp only [Act.put, sA, sB, sC])
        refine wpAnyH_done (by kernel_rfl) ?_ _
        go_wp2_with fail
        go_meet
        exact ⟨bn, hbnZ, rfl, hn4, hS4⟩
      refine AllReadyH.cons (by simp only [gA, gB, gC]; rfl) (fun K hK => ?_) AllReadyH.nil
      obtain ⟨w3, hrun, hz3_3, hb⟩ := zb_make w2 78 (by decide)
      have hS3 := Below.then hS2 hb
      have hz1_3 := hz1_2.below hb
      have hn3 := stab_blk _ _ _ _ hn2 hb
      refine step_make rfl _ _ rfl rfl rfl hrun ?_
      (try simp only [Act.put, sA, sB, sC])
      refine hK.out _ _ (trivial) ?_
      clear hHeld hK
      intro hHeld
      clear hb hrun
      generalize w2.heap.size = pz3 at *
      (try simp only [Act.put, sA, sB, sC])
      refine wpAnyH_ready (rs := [2, 4]) (by kernel_rfl) (by simp) ?_
      refine AllReadyH.cons (by simp only [gA, gB, gC]; rfl) (fun K hK => ?_) ?_
      · skip
        refine step_convB rfl _ rfl rfl (hcv _ _ hz1_3) ?_
        (try simp only [Act.put, sA, sB, sC])
        refine hK.out _ _ (trivial) ?_
        clear hHeld hK
        intro hHeld
        (try simp only [Act.put, sA, sB, sC])
        refine wpAnyH_ready (rs := [4]) (by kernel_rfl) (by simp) ?_
        refine AllReadyH.cons (by simp only [gA, gB, gC]; rfl) (fun K hK => ?_) AllReadyH.nil
        refine step_convB rfl _ rfl rfl (hcv _ _ hz3_3) ?_
        (try simp only [Act.put, sA, sB, sC])
        refine hK.out _ _ (trivial) ?_
        clear hHeld hK
        intro hHeld
        (try simp only [Act.put, sA, sB, sC])
        refine wpAnyH_take (i := 5) (v := ?_) (by simp only [gA, gB, gC]; rfl) (by kernel_rfl) (by kernel_rfl) (by kernel_rfl) (by exact fun _ _ _ h => h) (Or.inl ⟨by rfl, ?_⟩) (by assumption) ?_; rotate_left; (focus (intro w hSw; (try dsimp only at hSw); go_simp; try with_reducible rfl)); (try simp only [Act.put, sA, sB, sC])
        refine wpAnyH_ready (rs := [7]) (by kernel_rfl) (by simp) ?_
        refine AllReadyH.cons (by simp only [gA, gB, gC]; rfl) (fun K hK => ?_) AllReadyH.nil
        obtain ⟨w4, hwz, hthz, hn4, hS4⟩ := put_mid hn3 0 (ecs (bE z)) (by show 0 + 9 ≤ 9; decide) (by decide) hS3 hbnZ
        replace hn4 : BlkL bn (ecs (bE z)) w4 := hn4
        refine step_store_part rfl _ _ rfl bn 0 rfl (ecs (bE z)) rfl hthz hse (ent_one _) hwz ?_
        (try simp only [Act.put, sA, sB, sC])
        refine hK.out _ _ (trivial) ?_
        clear hHeld hK
        intro hHeld
        clear hwz hthz
        (try simp only [Act.put, sA, sB, sC])
        refine wpAnyH_done (by kernel_rfl) ?_ _
        go_wp2_with fail
        go_meet
        exact ⟨bn, hbnZ, rfl, hn4, hS4⟩
      refine AllReadyH.cons (by simp only [gA, gB, gC]; rfl) (fun K hK => ?_) AllReadyH.nil
      refine step_convB rfl _ rfl rfl (hcv _ _ hz3_3) ?_
      (try simp only [Act.put, sA, sB, sC])
      refine hK.out _ _ (trivial) ?_
      clear hHeld hK
      intro hHeld
      (try simp only [Act.put, sA, sB, sC])
      refine wpAnyH_ready (rs := [2]) (by kernel_rfl) (by simp) ?_
      refine AllReadyH.cons (by simp only [gA, gB, gC]; rfl) (fun K hK => ?_) AllReadyH.nil
      refine step_convB rfl _ rfl rfl (hcv _ _ hz1_3) ?_
      (try simp only [Act.put, sA, sB, sC])
      refine hK.out _ _ (trivial) ?_
      clear hHeld hK
      intro hHeld
      (try simp only [Act.put, sA, sB, sC])
      refine wpAnyH_take (i := 5) (v := ?_) (by simp only [gA, gB, gC]; rfl) (by kernel_rfl) (by kernel_rfl) (by kernel_rfl) (by exact fun _ _ _ h => h) (Or.inl ⟨by rfl, ?_⟩) (by assumption) ?_; rotate_left; (focus (intro w hSw; (try dsimp only at hSw); go_simp; try with_reducible rfl)); (try simp only [Act.put, sA, sB, sC])
      refine wpAnyH_ready (rs := [7]) (by kernel_rfl) (by simp) ?_
      refine AllReadyH.cons (by simp only [gA, gB, gC]; rfl) (fun K hK => ?_) AllReadyH.nil
      obtain ⟨w4, hwz, hthz, hn4, hS4⟩ := put_mid hn3 0 (ecs (bE z)) (by show 0 + 9 ≤ 9; decide) (by decide) hS3 hbnZ
      replace hn4 : BlkL bn (ecs (bE z)) w4 := hn4
      refine step_store_part rfl _ _ rfl bn 0 rfl (ecs (bE z)) rfl hthz hse (ent_one _) hwz ?_
      (try simp only [Act.put, sA, sB, sC])
      refine hK.out _ _ (trivial) ?_
      clear hHeld hK
      intro hHeld
      clear hwz hthz
      (try simp only [Act.put, sA, sB, sC])
      refine wpAnyH_done (by kernel_rfl) ?_ _
      go_wp2_with fail
      go_meet
      exact ⟨bn, hbnZ, rfl, hn4, hS4⟩
    refine AllReadyH.cons (by simp only [gA, gB, gC]; rfl) (fun K hK => ?_) ?_
    · skip
      obtain ⟨w1, hrun, hz3_1, hb⟩ := zb_make w0 78 (by decide)
      have hS1 := Below.then hS0 hb
      refine step_make rfl _ _ rfl rfl rfl hrun ?_
      (try simp only [Act.put, sA, sB, sC])
      refine hK.out _ _ (trivial) ?_
      clear hHeld hK
      intro hHeld
      clear hb hrun
      generalize w0.heap.size = pz3 at *
      (try simp only [Act.put, sA, sB, sC])
      refine wpAnyH_ready (rs := [1, 4, 6]) (by kernel_rfl) (by simp) ?_
      refine AllReadyH.cons (by simp only [gA, gB, gC]; rfl) (fun K hK => ?_) ?_
      · skip
        obtain ⟨w2, hrun, hz1_2, hb⟩ := zb_make w1 78 (by decide)
        have hS2 := Below.then hS1 hb
        have hz3_2 := hz3_1.below hb
        refine step_make rfl _ _ rfl rfl rfl hrun ?_
        (try simp only [Act.put, sA, sB, sC])
        refine hK.out _ _ (trivial) ?_
        clear hHeld hK
        intro hHeld
        clear hb hrun
        generalize w1.heap.size = pz1 at *
        (try simp only [Act.put, sA, sB, sC])
        refine wpAnyH_ready (rs := [2, 4, 6]) (by kernel_rfl) (by simp) ?_
        refine AllReadyH.cons (by simp only [gA, gB, gC]; rfl) (fun K hK => ?_) ?_
        · skip
          refine step_convB rfl _ rfl rfl (hcv _ _ hz1_2) ?_
          (try simp only [Act.put, sA, sB, sC])
          refine hK.out _ _ (trivial) ?_
          clear hHeld hK
          intro hHeld
          (try simp only [Act.put, sA, sB, sC])
          refine wpAnyH_ready (rs := [4, 6]) (by kernel_rfl) (by simp) ?_
          refine AllReadyH.cons (by simp only [gA, gB, gC]; rfl) (fun K hK => ?_) ?_
          · skip
            refine step_convB rfl _ rfl rfl (hcv _ _ hz3_2) ?_
            (try simp only [Act.put, sA, sB, sC])
            refine hK.out _ _ (trivial) ?_
            clear hHeld hK
            intro hHeld
            (try simp only [Act.put, sA, sB, sC])
            refine wpAnyH_take (i := 5) (v := ?_) (by simp only [gA, gB, gC]; rfl) (by kernel_rfl) (by kernel_rfl) (by kernel_rfl) (by exact fun _ _ _ h => h) (Or.inl ⟨by rfl, ?_⟩) (by assumption) ?_; rotate_left; (focus (intro w hSw; (try dsimp only at hSw); go_simp; try with_reducible rfl)); (try simp only [Act.put, sA, sB, sC])
            refine wpAnyH_ready (rs := [6]) (by kernel_rfl) (by simp) ?_
            refine AllReadyH.cons (by simp only [gA, gB, gC]; rfl) (fun K hK => ?_) AllReadyH.nil
            go_simp
            refine hK.out _ _ (trivial) ?_
            clear hHeld hK
            intro hHeld
            have hb := alloc_below w2 (.cells zE 26)
            have hn3 := blkl_alloc w2 zE 26
            have hbnZ : Z.heap.size ≤ w2.heap.size := hS2.size
            have hS3 := Below.then hS2 hb
            generalize hwx : w2.alloc (.cells zE 26) = w3 at *
            clear hwx hb
            generalize w2.heap.size = bn at *
            (try simp only [Act.put, sA, sB, sC])
            refine wpAnyH_ready (rs := [7]) (by kernel_rfl) (by simp) ?_
            refine AllReadyH.cons (by simp only [gA, gB, gC]; rfl) (fun K hK => ?_) AllReadyH.nil
            obtain ⟨w4, hwz, hthz, hn4, hS4⟩ := put_mid hn3 0 (ecs (bE z)) (by show 0 + 9 ≤ 9; decide) (by decide) hS3 hbnZ
            replace hn4 : BlkL bn (ecs (bE z)) w4 := hn4
            refine step_store_part rfl _ _ rfl bn 0 rfl (ecs (bE z)) rfl hthz hse (ent_one _) hwz ?_
            (try simp only [Act.put, sA, sB, sC])
            refine hK.out _ _ (trivial) ?_
            clear hHeld hK
            intro hHeld
            clear hwz hthz
            (try simp only [Act.put, sA, sB, sC])
            refine wpAnyH_done (by kernel_rfl) ?_ _
            go_wp2_with fail
            go_meet
            exact ⟨bn, hbnZ, rfl, hn4, hS4⟩
          refine AllReadyH.cons (by simp only [gA, gB, gC]; rfl) (fun K hK => ?_) AllReadyH.nil
          go_simp
          refine hK.out _ _ (trivial) ?_
          clear hHeld hK
          intro hHeld
          have hb := alloc_below w2 (.cells zE 26)
          have hn3 := blkl_alloc w2 zE 26
          have hbnZ : Z.heap.size ≤ w2.heap.size := hS2.size
          have hS3 := Below.then hS2 hb
          have hz3_3 := hz3_2.below hb
          generalize hwx : w2.alloc (.cells zE 26) = w3 at *
          clear hwx hb
          generalize w2.heap.size = bn at *
          (try simp only [Act.put, sA, sB, sC])
          refine wpAnyH_ready (rs := [4]) (by kernel_rfl) (by simp) ?_
          refine AllReadyH.cons (by simp only [gA, gB, gC]; rfl) (fun K hK => ?_) AllReadyH.nil
          refine step_convB rfl _ rfl rfl (hcv _ _ hz3_3) ?_
          (try simp only [Act.put, sA, sB, sC])
          refine hK.out _ _ (trivial) ?_
          clear hHeld hK
          intro hHeld
          (try simp only [Act.put, sA, sB, sC])
          refine wpAnyH_take (i := 5) (v := ?_) (by simp only [gA, gB, gC]; rfl) (by kernel_rfl) (by kernel_rfl) (by kernel_rfl) (by exact fun _ _ _ h => h) (Or.inl ⟨by rfl, ?_⟩) (by assumption) ?_; rotate_left; (focus (intro w hSw; (try dsimp only at hSw); go_simp; try with_reducible rfl)); (try simp only [Act.put, sA, sB, sC])
          refine wpAnyH_ready (rs := [7]) (by kernel_rfl) (by simp) ?_
          refine AllReadyH.cons (by simp only [gA, gB, gC]; rfl) (fun K hK => ?_) AllReadyH.nil
          obtain ⟨w4, hwz, hthz, hn4, hS4⟩ := put_mid hn3 0 (ecs (bE z)) (by show 0 + 9 ≤ 9; decide) (by decide) hS3 hbnZ
          replace hn4 : BlkL bn (ecs (bE z)) w4 := hn4
          refine step_store_part rfl _ _ rfl bn 0 rfl (ecs (bE z)) rfl hthz hse (ent_one _) hwz ?_
          (try simp only [Act.put, sA, sB, sC])
          refine hK.out _ _ (trivial) ?_
          clear hHeld hK
          intro hHeld
          clear hwz hthz
          (try simp only [Act.put, sA, sB, sC])
          refine wpAnyH_done (by kernel_rfl) ?_ _
          go_wp2_with fail
          go_meet
          exact ⟨bn, hbnZ, rfl, hn4, hS4⟩
        refine AllReadyH.cons (by simp only [gA, gB, gC]; rfl) (fun K hK => ?_) ?_
        · skip
          refine step_convB rfl _ rfl rfl (hcv _ _ hz3_2) ?_
          (try simp only [Act.put, sA, sB, sC])
          refine hK.out _ _ (trivial) ?_
          clear hHeld hK
          intro hHeld
          (try simp only [Act.put, sA, sB, sC])
          refine wpAnyH_ready (rs := [2, 6]) (by kernel_rfl) (by simp) ?_
          refine AllReadyH.cons (by simp only [gA, gB, gC]; rfl) (fun K hK => ?_) ?_
          · skip
            refine step_convB rfl _ rfl rfl (hcv _ _ hz1_2) ?_
            (try simp only [Act.put, sA, sB, sC])
            refine hK.out _ _ (trivial) ?_
            clear hHeld hK
            intro hHeld
            (try simp only [Act.put, sA, sB, sC])
            refine wpAnyH_take (i := 5) (v := ?_) (by simp only [gA, gB, gC]; rfl) (by kernel_rfl) (by kernel_rfl) (by kernel_rfl) (by exact fun _ _ _ h => h) (Or.inl ⟨by rfl, ?_⟩) (by assumption) ?_; rotate_left; (focus (intro w hSw; (try dsimp only at hSw); go_simp; try with_reducible rfl)); (try simp only [Act.put, sA, sB, sC])
            refine wpAnyH_ready (rs := [6]) (by kernel_rfl) (by simp) ?_
            refine AllReadyH.cons (by simp only [gA, gB, gC]; rfl) (fun K hK => ?_) AllReadyH.nil
            go_simp
            refine hK.out _ _ (trivial) ?_
            clear hHeld hK
            intro hHeld
            have hb := alloc_below w2 (.cells zE 26)
            have hn3 := blkl_alloc w2 zE 26
            have hbnZ : Z.heap.size ≤ w2.heap.size := hS2.size
            have hS3 := Below.then hS2 hb
            generalize hwx : w2.alloc (.cells zE 26) = w3 at *
            clear hwx hb
            generalize w2.heap.size = bn at *
            (try simp only [Act.put, sA, sB, sC])
            refine wpAnyH_ready (rs := [7]) (by kernel_rfl) (by simp) ?_
            refine AllReadyH.cons (by simp only [gA, gB, gC]; rfl) (fun K hK => ?_) AllReadyH.nil
            obtain ⟨w4, hwz, hthz, hn4, hS4⟩ := put_mid hn3 0 (ecs (bE z)) (by show 0 + 9 ≤ 9; decide) (by decide) hS3 hbnZ
            replace hn4 : BlkL bn (ecs (bE z)) w4 := hn4
            refine step_store_part rfl _ _ rfl bn 0 rfl (ecs (bE z)) rfl hthz hse (ent_one _) hwz ?_
            (try simp only [Act.put, sA, sB, sC])
            refine hK.out _ _ (trivial) ?_
            clear hHeld hK
            intro hHeld
            clear hwz hthz
            (try simp only [Act.put, sA, sB, sC])
            refine wpAnyH_done (by kernel_rfl) ?_ _
            go_wp2_with fail
            go_meet
            exact ⟨bn, hbnZ, rfl, hn4, hS4⟩
          refine AllReadyH.cons (by simp only [gA, gB, gC]; rfl) (fun K hK => ?_) AllReadyH.nil
          go_simp
          refine hK.out _ _ (trivial) ?_
          clear hHeld hK
          intro hHeld
          have hb := alloc_below w2 (.cells zE 26)
          have hn3 := blkl_alloc w2 zE 26
          have hbnZ : Z.heap.size ≤ w2.heap.size := hS2.size
          have hS3 := Below.then hS2 hb
          have hz1_3 := hz1_2.below hb
          generalize hwx : w2.alloc (.cells zE 26) = w3 at *
          clear hwx hb
          generalize w2.heap.size = bn at *
          (try simp only [Act.put, sA, sB, sC])
          refine wpAnyH_ready (rs := [2]) (by kernel_rfl) (by simp) ?_
          refine AllReadyH.cons (by simp only [gA, gB, gC]; rfl) (fun K hK => ?_) AllReadyH.nil
          refine step_convB rfl _ rfl rfl (hcv _ _ hz1_3) ?_
          (try simp only [Act.put, sA, sB, sC])
          refine hK.out _ _ (trivial) ?_
          clear hHeld hK
          intro hHeld
          (try simp only [Act.put, sA, sB, sC])
          refine wpAnyH_take (i := 5) (v := ?_) (by simp only [gA, gB, gC]; rfl) (by kernel_rfl) (by kernel_rfl) (by kernel_rfl) (by exact fun _ _ _ h => h) (Or.inl ⟨by rfl, ?_⟩) (by assumption) ?_; rotate_left; (focus (intro w hSw; (try dsimp only at hSw); go_simp; try with_reducible rfl)); (try simp only [Act.put, sA, sB, sC])
          refine wpAnyH_ready (rs := [7]) (by kernel_rfl) (by simp) ?_
          refine AllReadyH.cons (by simp only [gA, gB, gC]; rfl) (fun K hK => ?_) AllReadyH.nil
          obtain ⟨w4, hwz, hthz, hn4, hS4⟩ := put_mid hn3 0 (ecs (bE z)) (by show 0 + 9 ≤ 9; decide) (by decide) hS3 hbnZ
          replace hn4 : BlkL bn (ecs (bE z)) w4 := hn4
          refine step_store_part rfl _ _ rfl bn 0 rfl (ecs (bE z)) rfl hthz hse (ent_one _) hwz ?_
          (try simp only [Act.put, sA, sB, sC])
          refine hK.out _ _ (trivial) ?_
          clear hHeld hK
          intro hHeld
          clear hwz hthz
          (try simp only [Act.put, sA, sB, sC])
          refine wpAnyH_done (by kernel_rfl) ?_ _
          go_wp2_with fail
          go_meet
          exact ⟨bn, hbnZ, rfl, hn4, hS4⟩
        refine AllReadyH.cons (by simp only [gA, gB, gC]; rfl) (fun K hK => ?_) AllReadyH.nil
        go_simp
        refine hK.out _ _ (trivial) ?_
        clear hHeld hK
        intro hHeld
        have hb := alloc_below w2 (.cells zE 26)
        have hn3 := blkl_alloc w2 zE 26
        have hbnZ : Z.heap.size ≤ w2.heap.size := hS2.size
        have hS3 := Below.then hS2 hb
        have hz1_3 := hz1_2.below hb
        have hz3_3 := hz3_2.below hb
        generalize hwx : w2.alloc (.cells zE 26) = w3 at *
        clear hwx hb
        generalize w2.heap.size = bn at *
        (try simp only [Act.put, sA, sB, sC])
        refine wpAnyH_ready (rs := [2, 4]) (by kernel_rfl) (by simp) ?_
        refine AllReadyH.cons (by simp only [gA, gB, gC]; rfl) (fun K hK => ?_) ?_
        · skip
          refine step_convB rfl _ rfl rfl (hcv _ _ hz1_3) ?_
          (try simp only [Act.put, sA, sB, sC])
          refine hK.out _ _ (trivial) ?_
          clear hHeld hK
          intro hHeld
          (try simp only [Act.put, sA, sB, sC])
          refine wpAnyH_ready (rs := [4]) (by kernel_rfl) (by simp) ?_
          refine AllReadyH.cons (by simp only [gA, gB, gC]; rfl) (fun K hK => ?_) AllReadyH.nil
          refine step_convB rfl _ rfl rfl (hcv _ _ hz3_3) ?_
          (try simp only [Act.put, sA, sB, sC])
          refine hK.out _ _ (trivial) ?_
          clear hHeld hK
          intro hHeld
          (try simp only [Act.put, sA, sB, sC])
          refine wpAnyH_take (i := 5) (v := ?_) (by simp only [gA, gB, gC]; rfl) (by kernel_rfl) (by kernel_rfl) (by kernel_rfl) (by exact fun _ _ _ h => h) (Or.inl ⟨by rfl, ?_⟩) (by assumption) ?_; rotate_left; (focus (intro w hSw; (try dsimp only at hSw); go_simp; try with_reducible rfl)); (try simp only [Act.put, sA, sB, sC])
          refine wpAnyH_ready (rs := [7]) (by kernel_rfl) (by simp) ?_
          refine AllReadyH.cons (by simp only [gA, gB, gC]; rfl) (fun K hK => ?_) AllReadyH.nil
          obtain ⟨w4, hwz, hthz, hn4, hS4⟩ := put_mid hn3 0 (ecs (bE z)) (by show 0 + 9 ≤ 9; decide) (by decide) hS3 hbnZ
          replace hn4 : BlkL bn (ecs (bE z)) w4 := hn4
          refine step_store_part rfl _ _ rfl bn 0 rfl (ecs (bE z)) rfl hthz hse (ent_one _) hwz ?_
          (try simp only [Act.put, sA, sB, sC])
          refine hK.out _ _ (trivial) ?_
          clear hHeld hK
          intro hHeld
          clear hwz hthz
          (try simp only [Act.put, sA, sB, sC])
          refine wpAnyH_done (by kernel_rfl) ?_ _
          go_wp2_with fail
          go_meet
          exact ⟨bn, hbnZ, rfl, hn4, hS4⟩
        refine AllReadyH.cons (by simp only [gA, gB, gC]; rfl) (fun K hK => ?_) AllReadyH.nil
        refine step_convB rfl _ rfl rfl (hcv _ _ hz3_3) ?_
        (try simp only [Act.put, sA, sB, sC])
        refine hK.out _ _ (trivial) ?_
        clear hHeld hK
        intro hHeld
        (try simp only [Act.put, sA, sB, sC])
        refine wpAnyH_ready (rs := [2]) (by kernel_rfl) (by simp) ?_
        refine AllReadyH.cons (by simp only [gA, gB, gC]; rfl) (fun K hK => ?_) AllReadyH.nil
        refine step_convB rfl _ rfl rfl (hcv _ _ hz1_3) ?_
        (try simp only [Act.put, sA, sB, sC])
        refine hK.out _ _ (trivial) ?_
        clear hHeld hK
        intro hHeld
        (try simp only [Act.put, sA, sB, sC])
        refine wpAnyH_take (i := 5) (v := ?_) (by simp only [gA, gB, gC]; rfl) (by kernel_rfl) (by kernel_rfl) (by kernel_rfl) (by exact fun _ _ _ h => h) (Or.inl ⟨by rfl, ?_⟩) (by assumption) ?_; rotate_left; (focus (intro w hSw; (try dsimp only at hSw); go_simp; try with_reducible rfl)); (try simp only [Act.put, sA, sB, sC])
        refine wpAnyH_ready (rs := [7]) (by kernel_rfl) (by simp) ?_
        refine AllReadyH.cons (by simp only [gA, gB, gC]; rfl) (fun K hK => ?_) AllReadyH.nil
        obtain ⟨w4, hwz, hthz, hn4, hS4⟩ := put_mid hn3 0 (ecs (bE z)) (by show 0 + 9 ≤ 9; decide) (by decide) hS3 hbnZ
        replace hn4 : BlkL bn (ecs (bE z)) w4 := hn4
        refine step_store_part rfl _ _ rfl bn 0 rfl (ecs (bE z)) rfl hthz hse (ent_one _) hwz ?_
        (try simp only [Act.put, sA, sB, sC])
        refine hK.out _ _ (trivial) ?_
        clear hHeld hK
        intro hHeld
        clear hwz hthz
        (try simp only [Act.put, sA, sB, sC])
        refine wpAnyH_done (by kernel_rfl) ?_ _
        go_wp2_with fail
        go_meet
        exact ⟨bn, hbnZ, rfl, hn4, hS4⟩
      refine AllReadyH.cons (by simp only [gA, gB, gC]; rfl) (fun K hK => ?_) ?_
      · skip
        refine step_convB rfl _ rfl rfl (hcv _ _ hz3_1) ?_
        (try simp only [Act.put, sA, sB, sC])
        refine hK.out _ _ (trivial) ?_
        clear hHeld hK
        intro hHeld
        (try simp only [Act.put, sA, sB, sC])
        refine wpAnyH_ready (rs := [1, 6]) (by kernel_rfl) (by simp) ?_
        refine AllReadyH.cons (by simp only [gA, gB, gC]; rfl) (fun K hK => ?_) ?_
        · skip
          obtain ⟨w2, hrun, hz1_2, hb⟩ := zb_make w1 78 (by decide)
          have hS2 := Below.then hS1 hb
          refine step_make rfl _ _ rfl rfl rfl hrun ?_
          (try simp only [Act.put, sA, sB, sC])
          refine hK.out _ _ (trivial) ?_
          clear hHeld hK
          intro hHeld
          clear hb hrun
          generalize w1.heap.size = pz1 at *
          (try simp only [Act.put, sA, sB, sC])
          refine wpAnyH_ready (rs := [2, 6]) (by kernel_rfl) (by simp) ?_
          refine AllReadyH.cons (by simp only [gA, gB, gC]; rfl) (fun K hK => ?_) ?_
          · skip
            refine step_convB rfl _ rfl rfl (hcv _ _ hz1_2) ?_
            (try simp only [Act.put, sA, sB, sC])
            refine hK.out _ _ (trivial) ?_
            clear hHeld hK
            intro hHeld
            (try simp only [Act.put, sA, sB, sC])
            refine wpAnyH_take (i := 5) (v := ?_) (by simp only [gA, gB, gC]; rfl) (by kernel_rfl) (by kernel_rfl) (by kernel_rfl) (by exact fun _ _ _ h => h) (Or.inl ⟨by rfl, ?_⟩) (by assumption) ?_; rotate_left; (focus (intro w hSw; (try dsimp only at hSw); go_simp; try with_reducible rfl)); (try simp only [Act.put, sA, sB, sC])
            refine wpAnyH_ready (rs := [6]) (by kernel_rfl) (by simp) ?_
            refine AllReadyH.cons (by simp only [gA, gB, gC]; rfl) (fun K hK => ?_) AllReadyH.nil
            go_simp
            refine hK.out _ _ (trivial) ?_
            clear hHeld hK
            intro hHeld
            have hb := alloc_below w2 (.cells zE 26)
            have hn3 := blkl_alloc w2 zE 26
            have hbnZ : Z.heap.size ≤ w2.heap.size := hS2.size
            have hS3 := Below.then hS2 hb
            generalize hwx : w2.alloc (.cells zE 26) = w3 at *
            clear hwx hb
            generalize w2.heap.size = bn at *
            (try simp only [Act.put, sA, sB, sC])
            refine wpAnyH_ready (rs := [7]) (by kernel_rfl) (by simp) ?_
            refine AllReadyH.cons (by simp only [gA, gB, gC]; rfl) (fun K hK => ?_) AllReadyH.nil
            obtain ⟨w4, hwz, hthz, hn4, hS4⟩ := put_mid hn3 0 (ecs (bE z)) (by show 0 + 9 ≤ 9; decide) (by decide) hS3 hbnZ
            replace hn4 : BlkL bn (ecs (bE z)) w4 := hn4
            refine step_store_part rfl _ _ rfl bn 0 rfl (ecs (bE z)) rfl hthz hse (ent_one _) hwz ?_
            (try simp only [Act.put, sA, sB, sC])
            refine hK.out _ _ (trivial) ?_
            clear hHeld hK
            intro hHeld
            clear hwz hthz
            (try simp only [Act.put, sA, sB, sC])
            refine wpAnyH_done (by kernel_rfl) ?_ _
            go_wp2_with fail
            go_meet
            exact ⟨bn, hbnZ, rfl, hn4, hS4⟩
          refine AllReadyH.cons (by simp only [gA, gB, gC]; rfl) (fun K hK => ?_) AllReadyH.nil
          go_simp
          refine hK.out _ _ (trivial) ?_
          clear hHeld hK
          intro hHeld
          have hb := alloc_below w2 (.cells zE 26)
          have hn3 := blkl_alloc w2 zE 26
          have hbnZ : Z.heap.size ≤ w2.heap.size := hS2.size
          have hS3 := Below.then hS2 hb
          have hz1_3 := hz1_2.below hb
          generalize hwx : w2.alloc (.cells zE 26) = w3 at *
          clear hwx hb
          generalize w2.heap.size = bn at *
          (try simp only [Act.put, sA, sB, sC])
          refine wpAnyH_ready (rs := [2]) (by kernel_rfl) (by simp) ?_
          refine AllReadyH.cons (by simp only [gA, gB, gC]; rfl) (fun K hK => ?_) AllReadyH.nil
          refine step_convB rfl _ rfl rfl (hcv _ _ hz1_3) ?_
          (try simp only [Act.put, sA, sB, sC])
          refine hK.out _ _ (trivial) ?_
          clear hHeld hK
          intro hHeld
          (try simp only [Act.put, sA, sB, sC])
          refine wpAnyH_take (i := 5) (v := ?_) (by simp only [gA, gB, gC]; rfl) (by kernel_rfl) (by kernel_rfl) (by kernel_rfl) (by exact fun _ _ _ h => h) (Or.inl ⟨by rfl, ?_⟩) (by assumption) ?_; rotate_left; (focus (intro w hSw; (try dsimp only at hSw); go_simp; try with_reducible rfl)); (try simp only [Act.put, sA, sB, sC])
          refine wpAnyH_ready (rs := [7]) (by kernel_rfl) (by simp) ?_
          refine AllReadyH.cons (by simp only [gA, gB, gC]; rfl) (fun K hK => ?_) AllReadyH.nil
          obtain ⟨w4, hwz, hthz, hn4, hS4⟩ := put_mid hn3 0 (ecs (bE z)) (by show 0 + 9 ≤ 9; decide) (by decide) hS3 hbnZ
          replace hn4 : BlkL bn (ecs (bE z)) w4 := hn4
          refine step_store_part rfl _ _ rfl bn 0 rfl (ecs (bE z)) rfl hthz hse (ent_one _) hwz ?_
          (try simp only [Act.put, sA, sB, sC])
          refine hK.out _ _ (trivial) ?_
          clear hHeld hK
          intro hHeld
          clear hwz hthz
          (try simp only [Act.put, sA, sB, sC])
          refine wpAnyH_done (by kernel_rfl) ?_ _
          go_wp2_with fail
          go_meet
          exact ⟨bn, hbnZ, rfl, hn4, hS4⟩
        refine AllReadyH.cons (by simp only [gA, gB, gC]; rfl) (fun K hK => ?_) AllReadyH.nil
        go_simp
        refine hK.out _ _ (trivial) ?_
        clear hHeld hK
        intro hHeld
        have hb := alloc_below w1 (.cells zE 26)
        have hn2 := blkl_alloc w1 zE 26
        have hbnZ : Z.heap.size ≤ w1.heap.size := hS1.size
        have hS2 := Below.then hS1 hb
        generalize hwx : w1.alloc (.cells zE 26) = w2 at *
        clear hwx hb
        generalize w1.heap.size = bn at *
        (try simp only [Act.put, sA, sB, sC])
        refine wpAnyH_ready (rs := [1]) (by kernel_rfl) (by simp) ?_
        refine AllReadyH.cons (by simp only [gA, gB, gC]; rfl) (fun K hK => ?_) AllReadyH.nil
        obtain ⟨w3, hrun, hz1_3, hb⟩ := zb_make w2 78 (by decide)
        have hS3 := Below.then hS2 hb
        have hn3 := stab_blk _ _ _ _ hn2 hb
        refine step_make rfl _ _ rfl rfl rfl hrun ?_
        (try simp only [Act.put, sA, sB, sC])
        refine hK.out _ _ (trivial) ?_
        clear hHeld hK
        intro hHeld
        clear hb hrun
        generalize w2.heap.size = pz1 at *
        (try simp only [Act.put, sA, sB, sC])
        refine wpAnyH_ready (rs := [2]) (by kernel_rfl) (by simp) ?_
        refine AllReadyH.cons (by simp only [gA, gB, gC]; rfl) (fun K hK => ?_) AllReadyH.nil
        refine step_convB rfl _ rfl rfl (hcv _ _ hz1_3) ?_
        (try simp only [Act.put, sA, sB, sC])
        refine hK.out _ _ (trivial) ?_
        clear hHeld hK
        intro hHeld
        (try simp only [Act.put, sA, sB, sC])
        refine wpAnyH_take (i := 5) (v := ?_) (by simp only [gA, gB, gC]; rfl) (by kernel_rfl) (by kernel_rfl) (by kernel_rfl) (by exact fun _ _ _ h => h) (Or.inl ⟨by rfl, ?_⟩) (by assumption) ?_; rotate_left; (focus (intro w hSw; (try dsimp only at hSw); go_simp; try with_reducible rfl)); (try simp only [Act.put, sA, sB, sC])
        refine wpAnyH_ready (rs := [7]) (by kernel_rfl) (by simp) ?_
        refine AllReadyH.cons (by simp only [gA, gB, gC]; rfl) (fun K hK => ?_) AllReadyH.nil
        obtain ⟨w4, hwz, hthz, hn4, hS4⟩ := put_mid hn3 0 (ecs (bE z)) (by show 0 + 9 ≤ 9; decide) (by decide) hS3 hbnZ
        replace hn4 : BlkL bn (ecs (bE z)) w4 := hn4
        refine step_store_part rfl _ _ rfl bn 0 rfl (ecs (bE z)) rfl hthz hse (ent_one _) hwz ?_
        (try simp only [Act.put, sA, sB, sC])
        refine hK.out _ _ (trivial) ?_
        clear hHeld hK
        intro hHeld
        clear hwz hthz
        (try simp only [Act.put, sA, sB, sC])
        refine wpAnyH_done (by kernel_rfl) ?_ _
        go_wp2_with fail
        go_meet
        exact ⟨bn, hbnZ, rfl, hn4, hS4⟩
      refine AllReadyH.cons (by simp only [gA, gB, gC]; rfl) (fun K hK => ?_) AllReadyH.nil
      go_simp
      refine hK.out _ _ (trivial) ?_
      clear hHeld hK
      intro hHeld
      have hb := alloc_below w1 (.cells zE 26)
      have hn2 := blkl_alloc w1 zE 26
      have hbnZ : Z.heap.size ≤ w1.heap.size := hS1.size
      have hS2 := Below.then hS1 hb
      have hz3_2 := hz3_1.below hb
      generalize hwx : w1.alloc (.cells zE 26) = w2 at *
      clear hwx hb
      generalize w1.heap.size = bn at *
      (try simp only [Act.put, sA, sB, sC])
      refine wpAnyH_ready (rs := [1, 4]) (by kernel_rfl) (by simp) ?_
      refine AllReadyH.cons (by simp only [gA, gB, gC]; rfl) (fun K hK => ?_) ?_
      · skip
        obtain ⟨w3, hrun, hz1_3, hb⟩ := zb_make w2 78 (by decide)
        have hS3 := Below.then hS2 hb
        have hz3_3 := hz3_2.below hb
        have hn3 := stab_blk _ _ _ _ hn2 hb
        refine step_make rfl _ _ rfl rfl rfl hrun ?_
        (try simp only [Act.put, sA, sB, sC])
        refine hK.out _ _ (trivial) ?_
        clear hHeld hK
        intro hHeld
        clear hb hrun
        generalize w2.heap.size = pz1 at *
        (try simp only [Act.put, sA, sB, sC])
        refine wpAnyH_ready (rs := [2, 4]) (by kernel_rfl) (by simp) ?_
        refine AllReadyH.cons (by simp only [gA, gB, gC]; rfl) (fun K hK => ?_) ?_
        · skip
          refine step_convB rfl _ rfl rfl (hcv _ _ hz1_3) ?_
          (try simp only [Act.put, sA, sB, sC])
          refine hK.out _ _ (trivial) ?_
          clear hHeld hK
          intro hHeld
          (try simp only [Act.put, sA, sB, sC])
          refine wpAnyH_ready (rs := [4]) (by kernel_rfl) (by simp) ?_
          refine AllReadyH.cons (by simp only [gA, gB, gC]; rfl) (fun K hK => ?_) AllReadyH.nil
          refine step_convB rfl _ rfl rfl (hcv _ _ hz3_3) ?_
          (try simp only [Act.put, sA, sB, sC])
          refine hK.out _ _ (trivial) ?_
          clear hHeld hK
          intro hHeld
          (try simp only [Act.put, sA, sB, sC])
          refine wpAnyH_take (i := 5) (v := ?_) (by simp only [gA, gB, gC]; rfl) (by kernel_rfl) (by kernel_rfl) (by kernel_rfl) (by exact fun _ _ _ h => h) (Or.inl ⟨by rfl, ?_⟩) (by assumption) ?_; rotate_left; (focus (intro w hSw; (try dsimp only at hSw); go_simp; try with_reducible rfl)); (try simp only [Act.put, sA, sB, sC])
          refine wpAnyH_ready (rs := [7]) (by kernel_rfl) (by simp) ?_
          refine AllReadyH.cons (by simp only [gA, gB, gC]; rfl) (fun K hK => ?_) AllReadyH.nil
          obtain ⟨w4, hwz, hthz, hn4, hS4⟩ := put_mid hn3 0 (ecs (bE z)) (by show 0 + 9 ≤ 9; decide) (by decide) hS3 hbnZ
          replace hn4 : BlkL bn (ecs (bE z)) w4 := hn4
          refine step_store_part rfl _ _ rfl bn 0 rfl (ecs (bE z)) rfl hthz hse (ent_one _) hwz ?_
          (try simp only [Act.put, sA, sB, sC])
          refine hK.out _ _ (trivial) ?_
          clear hHeld hK
          intro hHeld
          clear hwz hthz
          (try simp only [Act.put, sA, sB, sC])
          refine wpAnyH_done (by kernel_rfl) ?_ _
          go_wp2_with fail
          go_meet
          exact ⟨bn, hbnZ, rfl, hn4, hS4⟩
        refine AllReadyH.cons (by simp only [gA, gB, gC]; rfl) (fun K hK => ?_) AllReadyH.nil
        refine step_convB rfl _ rfl rfl (hcv _ _ hz3_3) ?_
        (try simp only [Act.put, sA, sB, sC])
        refine hK.out _ _ (trivial) ?_
        clear hHeld hK
        intro hHeld
        (try simp only [Act.put, sA, sB, sC])
        refine wpAnyH_ready (rs := [2]) (by kernel_rfl) (by simp) ?_
        refine AllReadyH.cons (by simp only [gA, gB, gC]; rfl) (fun K hK => ?_) AllReadyH.nil
        refine step_convB rfl _ rfl rfl (hcv _ _ hz1_3) ?_
        (try simp only [Act.put, sA, sB, sC])
        refine hK.out _ _ (trivial) ?_
        clear hHeld hK
        intro hHeld
        (try simp only [Act.put, sA, sB, sC])
        refine wpAnyH_take (i := 5) (v := ?_) (by simp only [gA, gB, gC]; rfl) (by kernel_rfl) (by kernel_rfl) (by kernel_rfl) (by exact fun _ _ _ h => h) (Or.inl ⟨by rfl, ?_⟩) (by assumption) ?_; rotate_left; (focus (intro w hSw; (try dsimp only at hSw); go_simp; try with_reducible rfl)); (try simp only [Act.put, sA, sB, sC])
        refine wpAnyH_ready (rs := [7]) (by kernel_rfl) (by simp) ?_
        refine AllReadyH.cons (by simp only [gA, gB, gC]; rfl) (fun K hK => ?_) AllReadyH.nil
        obtain ⟨w4, hwz, hthz, hn4, hS4⟩ := put_mid hn3 0 (ecs (bE z)) (by show 0 + 9 ≤ 9; decide) (by decide) hS3 hbnZ
        replace hn4 : BlkL bn (ecs (bE z)) w4 := hn4
        refine step_store_part rfl _ _ rfl bn 0 rfl (ecs (bE z)) rfl hthz hse (ent_one _) hwz ?_
        (try simp only [Act.put, sA, sB, sC])
        refine hK.out _ _ (trivial) ?_
        clear hHeld hK
        intro hHeld
        clear hwz hthz
        (try simp only [Act.put, sA, sB, sC])
        refine wpAnyH_done (by kernel_rfl) ?_ _
        go_wp2_with fail
        go_meet
        exact ⟨bn, hbnZ, rfl, hn4, hS4⟩
      refine AllReadyH.cons (by simp only [gA, gB, gC]; rfl) (fun K hK => ?_) AllReadyH.nil
      refine step_convB rfl _ rfl rfl (hcv _ _ hz3_2) ?_
      (try simp only [Act.put, sA, sB, sC])
      refine hK.out _ _ (trivial) ?_
      clear hHeld hK
      intro hHeld
      (try simp only [Act.put, sA, sB, sC])
      refine wpAnyH_ready (rs := [1]) (by kernel_rfl) (by simp) ?_
      refine AllReadyH.cons (by simp only [gA, gB, gC]; rfl) (fun K hK => ?_) AllReadyH.nil
      obtain ⟨w3, hrun, hz1_3, hb⟩ := zb_make w2 78 (by decide)
      have hS3 := Below.then hS2 hb
      have hn3 := stab_blk _ _ _ _ hn2 hb
      refine step_make rfl _ _ rfl rfl rfl hrun ?_
      (try simp only [Act.put, sA, sB, sC])
      refine hK.out _ _ (trivial) ?_
      clear hHeld hK
      intro hHeld
      clear hb hrun
      generalize w2.heap.size = pz1 at *
      (try simp only [Act.put, sA, sB, sC])
      refine wpAnyH_ready (rs := [2]) (by kernel_rfl) (by simp) ?_
      refine AllReadyH.cons (by simp only [gA, gB, gC]; rfl) (fun K hK => ?_) AllReadyH.nil
      refine step_convB rfl _ rfl rfl (hcv _ _ hz1_3) ?_
      (try simp only [Act.put, sA, sB, sC])
      refine hK.out _ _ (trivial) ?_
      clear hHeld hK
      intro hHeld
      (try simp only [Act.put, sA, sB, sC])
      refine wpAnyH_take (i := 5) (v := ?_) (by simp only [gA, gB, gC]; rfl) (by kernel_rfl) (by kernel_rfl) (by kernel_rfl) (by exact fun _ _ _ h => h) (Or.inl ⟨by rfl, ?_⟩) (by assumption) ?_; rotate_left; (focus (intro w hSw; (try dsimp only at hSw); go_simp; try with_reducible rfl)); (try simp only [Act.put, sA, sB, sC])
      refine wpAnyH_ready (rs := [7]) (by kernel_rfl) (by simp) ?_
      refine AllReadyH.cons (by simp only [gA, gB, gC]; rfl) (fun K hK => ?_) AllReadyH.nil
      obtain ⟨w4, hwz, hthz, hn4, hS4⟩ := put_mid hn3 0 (ecs (bE z)) (by show 0 + 9 ≤ 9; decide) (by decide) hS3 hbnZ
      replace hn4 : BlkL bn (ecs (bE z)) w4 := hn4
      refine step_store_part rfl _ _ rfl bn 0 rfl (ecs (bE z)) rfl hthz hse (ent_one _) hwz ?_
      (try simp only [Act.put, sA, sB, sC])
      refine hK.out _ _ (trivial) ?_
      clear hHeld hK
      intro hHeld
      clear hwz hthz
      (try simp only [Act.put, sA, sB, sC])
      refine wpAnyH_done (by kernel_rfl) ?_ _
      go_wp2_with fail
      go_meet
      exact ⟨bn, hbnZ, rfl, hn4, hS4⟩
    refine AllReadyH.cons (by simp only [gA, gB, gC]; rfl) (fun K hK => ?_) AllReadyH.nil
    go_simp
    refine hK.out _ _ (trivial) ?_
    clear hHeld hK
    intro hHeld
    have hb := alloc_below w0 (.cells zE 26)
    have hn1 := blkl_alloc w0 zE 26
    have hbnZ : Z.heap.size ≤ w0.heap.size := hS0.size
    have hS1 := Below.then hS0 hb
    generalize hwx : w0.alloc (.cells zE 26) = w1 at *
    clear hwx hb
    generalize w0.heap.size = bn at *
    (try simp only [Act.put, sA, sB, sC])
    refine wpAnyH_ready (rs := [1, 3]) (by kernel_rfl) (by simp) ?_
    refine AllReadyH.cons (by simp only [gA, gB, gC]; rfl) (fun K hK => ?_) ?_
    · skip
      obtain ⟨w2, hrun, hz1_2, hb⟩ := zb_make w1 78 (by decide)
      have hS2 := Below.then hS1 hb
      have hn2 := stab_blk _ _ _ _ hn1 hb
      refine step_make rfl _ _ rfl rfl rfl hrun ?_
      (try simp only [Act.put, sA, sB, sC])
      refine hK.out _ _ (trivial) ?_
      clear hHeld hK
      intro hHeld
      clear hb hrun
      generalize w1.heap.size = pz1 at *
      (try simp only [Act.put, sA, sB, sC])
      refine wpAnyH_ready (rs := [2, 3]) (by kernel_rfl) (by simp) ?_
      refine AllReadyH.cons (by simp only [gA, gB, gC]; rfl) (fun K hK => ?_) ?_
      · skip
        refine step_convB rfl _ rfl rfl (hcv _ _ hz1_2) ?_
        (try simp only [Act.put, sA, sB, sC])
        refine hK.out _ _ (trivial) ?_
        clear hHeld hK
        intro hHeld
        (try simp only [Act.put, sA, sB, sC])
        refine wpAnyH_ready (rs := [3]) (by kernel_rfl) (by simp) ?_
        refine AllReadyH.cons (by simp only [gA, gB, gC]; rfl) (fun K hK => ?_) AllReadyH.nil
        obtain ⟨w3, hrun, hz3_3, hb⟩ := zb_make w2 78 (by decide)
        have hS3 := Below.then hS2 hb
        have hn3 := stab_blk _ _ _ _ hn2 hb
        refine step_make rfl _ _ rfl rfl rfl hrun ?_
        (try simp only [Act.put, sA, sB, sC])
        refine hK.out _ _ (trivial) ?_
        clear hHeld hK
        intro hHeld
        clear hb hrun
        generalize w2.heap.size = pz3 at *
        (try simp only [Act.put, sA, sB, sC])
        refine wpAnyH_ready (rs := [4]) (by kernel_rfl) (by simp) ?_
        refine AllReadyH.cons (by simp only [gA, gB, gC]; rfl) (fun K hK => ?_) AllReadyH.nil
        refine step_convB rfl _ rfl rfl (hcv _ _ hz3_3) ?_
        (try simp only [Act.put, sA, sB, sC])
        refine hK.out _ _ (trivial) ?_
        clear hHeld hK
        intro hHeld
        (try simp only [Act.put, sA, sB, sC])
        refine wpAnyH_take (i := 5) (v := ?_) (by simp only [gA, gB, gC]; rfl) (by kernel_rfl) (by kernel_rfl) (by kernel_rfl) (by exact fun _ _ _ h => h) (Or.inl ⟨by rfl, ?_⟩) (by assumption) ?_; rotate_left; (focus (intro w hSw; (try dsimp only at hSw); go_simp; try with_reducible rfl)); (try simp only [Act.put, sA, sB, sC])
        refine wpAnyH_ready (rs := [7]) (by kernel_rfl) (by simp) ?_
        refine AllReadyH.cons (by simp only [gA, gB, gC]; rfl) (fun K hK => ?_) AllReadyH.nil
        obtain ⟨w4, hwz, hthz, hn4, hS4⟩ := put_mid hn3 0 (ecs (bE z)) (by show 0 + 9 ≤ 9; decide) (by decide) hS3 hbnZ
        replace hn4 : BlkL bn (ecs (bE z)) w4 := hn4
        refine step_store_part rfl _ _ rfl bn 0 rfl (ecs (bE z)) rfl hthz hse (ent_one _) hwz ?_
        (try simp only [Act.put, sA, sB, sC])
        refine hK.out _ _ (trivial) ?_
        clear hHeld hK
        intro hHeld
        clear hwz hthz
        (try simp only [Act.put, sA, sB, sC])
        refine wpAnyH_done (by kernel_rfl) ?_ _
        go_wp2_with fail
        go_meet
        exact ⟨bn, hbnZ, rfl, hn4, hS4⟩
      refine AllReadyH.cons (by simp only [gA, gB, gC]; rfl) (fun K hK => ?_) AllReadyH.nil
      obtain ⟨w3, hrun, hz3_3, hb⟩ := zb_make w2 78 (by decide)
      have hS3 := Below.then hS2 hb
      have hz1_3 := hz1_2.below hb
      have hn3 := stab_blk _ _ _ _ hn2 hb
      refine step_make rfl _ _ rfl rfl rfl hrun ?_
      (try simp only [Act.put, sA, sB, sC])
      refine hK.out _ _ (trivial) ?_
      clear hHeld hK
      intro hHeld
      clear hb hrun
      generalize w2.heap.size = pz3 at *
      (try simp only [Act.put, sA, sB, sC])
      refine wpAnyH_ready (rs := [2, 4]) (by kernel_rfl) (by simp) ?_
      refine AllReadyH.cons (by simp only [gA, gB, gC]; rfl) (fun K hK => ?_) ?_
      · skip
        refine step_convB rfl _ rfl rfl (hcv _ _ hz1_3) ?_
        (try simp only [Act.put, sA, sB, sC])
        refine hK.out _ _ (trivial) ?_
        clear hHeld hK
        intro hHeld
        (try simp only [Act.put, sA, sB, sC])
        refine wpAnyH_ready (rs := [4]) (by kernel_rfl) (by simp) ?_
        refine AllReadyH.cons (by simp only [gA, gB, gC]; rfl) (fun K hK => ?_) AllReadyH.nil
        refine step_convB rfl _ rfl rfl (hcv _ _ hz3_3) ?_
        (try simp only [Act.put, sA, sB, sC])
        refine hK.out _ _ (trivial) ?_
        clear hHeld hK
        intro hHeld
        (try simp only [Act.put, sA, sB, sC])
        refine wpAnyH_take (i := 5) (v := ?_) (by simp only [gA, gB, gC]; rfl) (by kernel_rfl) (by kernel_rfl) (by kernel_rfl) (by exact fun _ _ _ h => h) (Or.inl ⟨by rfl, ?_⟩) (by assumption) ?_; rotate_left; (focus (intro w hSw; (try dsimp only at hSw); go_simp; try with_reducible rfl)); (try simp only [Act.put, sA, sB, sC])
        refine wpAnyH_ready (rs := [7]) (by kernel_rfl) (by simp) ?_
        refine AllReadyH.cons (by simp only [gA, gB, gC]; rfl) (fun K hK => ?_) AllReadyH.nil
        obtain ⟨w4, hwz, hthz, hn4, hS4⟩ := put_mid hn3 0 (ecs (bE z)) (by show 0 + 9 ≤ 9; decide) (by decide) hS3 hbnZ
        replace hn4 : BlkL bn (ecs (bE z)) w4 := hn4
        refine step_store_part rfl _ _ rfl bn 0 rfl (ecs (bE z)) rfl hthz hse (ent_one _) hwz ?_
        (try simp only [Act.put, sA, sB, sC])
        refine hK.out _ _ (trivial) ?_
        clear hHeld hK
        intro hHeld
        clear hwz hthz
        (try simp only [Act.put, sA, sB, sC])
        refine wpAnyH_done (by kernel_rfl) ?_ _
        go_wp2_with fail
        go_meet
        exact ⟨bn, hbnZ, rfl, hn4, hS4⟩
      refine AllReadyH.cons (by simp only [gA, gB, gC]; rfl) (fun K hK => ?_) AllReadyH.nil
      refine step_convB rfl _ rfl rfl (hcv _ _ hz3_3) ?_
      (try simp only [Act.put, sA, sB, sC])
      refine hK.out _ _ (trivial) ?_
      clear hHeld hK
      intro hHeld
      (try simp only [Act.put, sA, sB, sC])
      refine wpAnyH_ready (rs := [2]) (by kernel_rfl) (by simp) ?_
      refine AllReadyH.cons (by simp only [gA, gB, gC]; rfl) (fun K hK => ?_) AllReadyH.nil
      refine step_convB rfl _ rfl rfl (hcv _ _ hz1_3) ?_
      (try simp only [Act.put, sA, sB, sC])
      refine hK.out _ _ (trivial) ?_
      clear hHeld hK
      intro hHeld
      (try simp only [Act.put, sA, sB, sC])
      refine wpAnyH_take (i := 5) (v := ?_) (by simp only [gA, gB, gC]; rfl) (by kernel_rfl) (by kernel_rfl) (by kernel_rfl) (by exact fun _ _ _ h => h) (Or.inl ⟨by rfl, ?_⟩) (by assumption) ?_; rotate_left; (focus (intro w hSw; (try dsimp only at hSw); go_simp; try with_reducible rfl)); (try simp only [Act.put, sA, sB, sC])
      refine wpAnyH_ready (rs := [7]) (by kernel_rfl) (by simp) ?_
      refine AllReadyH.cons (by simp only [gA, gB, gC]; rfl) (fun K hK => ?_) AllReadyH.nil
      obtain ⟨w4, hwz, hthz, hn4, hS4⟩ := put_mid hn3 0 (ecs (bE z)) (by show 0 + 9 ≤ 9; decide) (by decide) hS3 hbnZ
      replace hn4 : BlkL bn (ecs (bE z)) w4 := hn4
      refine step_store_part rfl _ _ rfl bn 0 rfl (ecs (bE z)) rfl hthz hse (ent_one _) hwz ?_
      (try simp only [Act.put, sA, sB, sC])
      refine hK.out _ _ (trivial) ?_
      clear hHeld hK
      intro hHeld
      clear hwz hthz
      (try simp only [Act.put, sA, sB, sC])
      refine wpAnyH_done (by kernel_rfl) ?_ _
      go_wp2_with fail
      go_meet
      exact ⟨bn, hbnZ, rfl, hn4, hS4⟩
    refine AllReadyH.cons (by simp only [gA, gB, gC]; rfl) (fun K hK => ?_) AllReadyH.nil
    obtain ⟨w2, hrun, hz3_2, hb⟩ := zb_make w1 78 (by decide)
    have hS2 := Below.then hS1 hb
    have hn2 := stab_blk _ _ _ _ hn1 hb
    refine step_make rfl _ _ rfl rfl rfl hrun ?_
    (try simp only [Act.put, sA, sB, sC])
    refine hK.out _ _ (trivial) ?_
    clear hHeld hK
    intro hHeld
    clear hb hrun
    generalize w1.heap.size = pz3 at *
    (try simp only [Act.put, sA, sB, sC])
    refine wpAnyH_ready (rs := [1, 4]) (by kernel_rfl) (by simp) ?_
    refine AllReadyH.cons (by simp only [gA, gB, gC]; rfl) (fun K hK => ?_) ?_
    · skip
      obtain ⟨w3, hrun, hz1_3, hb⟩ := zb_make w2 78 (by decide)
      have hS3 := Below.then hS2 hb
      have hz3_3 := hz3_2.below hb
      have hn3 := stab_blk _ _ _ _ hn2 hb
      refine step_make rfl _ _ rfl rfl rfl hrun ?_
      (try simp only [Act.put, sA, sB, sC])
      refine hK.out _ _ (trivial) ?_
      clear hHeld hK
      intro hHeld
      clear hb hrun
      generalize w2.heap.size = pz1 at *
      (try simp only [Act.put, sA, sB, sC])
      refine wpAnyH_ready (rs := [2, 4]) (by kernel_rfl) (by simp) ?_
      refine AllReadyH.cons (by simp only [gA, gB, gC]; rfl) (fun K hK => ?_) ?_
      · skip
        refine step_convB rfl _ rfl rfl (hcv _ _ hz1_3) ?_
        (try simp only [Act.put, sA, sB, sC])
        refine hK.out _ _ (trivial) ?_
        clear hHeld hK
        intro hHeld
        (try simp only [Act.put, sA, sB, sC])
        refine wpAnyH_ready (rs := [4]) (by kernel_rfl) (by simp) ?_
        refine AllReadyH.cons (by simp only [gA, gB, gC]; rfl) (fun K hK => ?_) AllReadyH.nil
        refine step_convB rfl _ rfl rfl (hcv _ _ hz3_3) ?_
        (try simp only [Act.put, sA, sB, sC])
        refine hK.out _ _ (trivial) ?_
        clear hHeld hK
        intro hHeld
        (try simp only [Act.put, sA, sB, sC])
        refine wpAnyH_take (i := 5) (v := ?_) (by simp only [gA, gB, gC]; rfl) (by kernel_rfl) (by kernel_rfl) (by kernel_rfl) (by exact fun _ _ _ h => h) (Or.inl ⟨by rfl, ?_⟩) (by assumption) ?_; rotate_left; (focus (intro w hSw; (try dsimp only at hSw); go_simp; try with_reducible rfl)); (try simp only [Act.put, sA, sB, sC])
        refine wpAnyH_ready (rs := [7]) (by kernel_rfl) (by simp) ?_
        refine AllReadyH.cons (by simp only [gA, gB, gC]; rfl) (fun K hK => ?_) AllReadyH.nil
        obtain ⟨w4, hwz, hthz, hn4, hS4⟩ := put_mid hn3 0 (ecs (bE z)) (by show 0 + 9 ≤ 9; decide) (by decide) hS3 hbnZ
        replace hn4 : BlkL bn (ecs (bE z)) w4 := hn4
        refine step_store_part rfl _ _ rfl bn 0 rfl (ecs (bE z)) rfl hthz hse (ent_one _) hwz ?_
        (try simp only [Act.put, sA, sB, sC])
        refine hK.out _ _ (trivial) ?_
        clear hHeld hK
        intro hHeld
        clear hwz hthz
        (try simp only [Act.put, sA, sB, sC])
        refine wpAnyH_done (by kernel_rfl) ?_ _
        go_wp2_with fail
        go_meet
        exact ⟨bn, hbnZ, rfl, hn4, hS4⟩
      refine AllReadyH.cons (by simp only [gA, gB, gC]; rfl) (fun K hK => ?_) AllReadyH.nil
      refine step_convB rfl _ rfl rfl (hcv _ _ hz3_3) ?_
      (try simp only [Act.put, sA, sB, sC])
      refine hK.out _ _ (trivial) ?_
      clear hHeld hK
      intro hHeld
      (try simp only [Act.put, sA, sB, sC])
      refine wpAnyH_ready (rs := [2]) (by kernel_rfl) (by simp) ?_
      refine AllReadyH.cons (by simp only [gA, gB, gC]; rfl) (fun K hK => ?_) AllReadyH.nil
      refine step_convB rfl _ rfl rfl (hcv _ _ hz1_3) ?_
      (try simp only [Act.put, sA, sB, sC])
      refine hK.out _ _ (trivial) ?_
      clear hHeld hK
      intro hHeld
      (try simp only [Act.put, sA, sB, sC])
      refine wpAnyH_take (i := 5) (v := ?_) (by simp only [gA, gB, gC]; rfl) (by kernel_rfl) (by kernel_rfl) (by kernel_rfl) (by exact fun _ _ _ h => h) (Or.inl ⟨by rfl, ?_⟩) (by assumption) ?_; rotate_left; (focus (intro w hSw; (try dsimp only at hSw); go_simp; try with_reducible rfl)); (try simp only [Act.put, sA, sB, sC])
      refine wpAnyH_ready (rs := [7]) (by kernel_rfl) (by simp) ?_
      refine AllReadyH.cons (by simp only [gA, gB, gC]; rfl) (fun K hK => ?_) AllReadyH.nil
      obtain ⟨w4, hwz, hthz, hn4, hS4⟩ := put_mid hn3 0 (ecs (bE z)) (by show 0 + 9 ≤ 9; decide) (by decide) hS3 hbnZ
      replace hn4 : BlkL bn (ecs (bE z)) w4 := hn4
      refine step_store_part rfl _ _ rfl bn 0 rfl (ecs (bE z)) rfl hthz hse (ent_one _) hwz ?_
      (try simp only [Act.put, sA, sB, sC])
      refine hK.out _ _ (trivial) ?_
      clear hHeld hK
      intro hHeld
      clear hwz hthz
      (try simp only [Act.put, sA, sB, sC])
      refine wpAnyH_done (by kernel_rfl) ?_ _
      go_wp2_with fail
      go_meet
      exact ⟨bn, hbnZ, rfl, hn4, hS4⟩
    refine AllReadyH.cons (by simp only [gA, gB, gC]; rfl) (fun K hK => ?_) AllReadyH.nil
    refine step_convB rfl _ rfl rfl (hcv _ _ hz3_2) ?_
    (try simp only [Act.put, sA, sB, sC])
    refine hK.out _ _ (trivial) ?_
    clear hHeld hK
    intro hHeld
    (try simp only [Act.put, sA, sB, sC])
    refine wpAnyH_ready (rs := [1]) (by kernel_rfl) (by simp) ?_
    refine AllReadyH.cons (by simp only [gA, gB, gC]; rfl) (fun K hK => ?_) AllReadyH.nil
    obtain ⟨w3, hrun, hz1_3, hb⟩ := zb_make w2 78 (by decide)
    have hS3 := Below.then hS2 hb
    have hn3 := stab_blk _ _ _ _ hn2 hb
    refine step_make rfl _ _ rfl rfl rfl hrun ?_
    (try simp only [Act.put, sA, sB, sC])
    refine hK.out _ _ (trivial) ?_
    clear hHeld hK
    intro hHeld
    clear hb hrun
    generalize w2.heap.size = pz1 at *
    (try simp only [Act.put, sA, sB, sC])
    refine wpAnyH_ready (rs := [2]) (by kernel_rfl) (by simp) ?_
    refine AllReadyH.cons (by simp only [gA, gB, gC]; rfl) (fun K hK => ?_) AllReadyH.nil
    refine step_convB rfl _ rfl rfl (hcv _ _ hz1_3) ?_
    (try simp only [Act.put, sA, sB, sC])
    refine hK.out _ _ (trivial) ?_
    clear hHeld hK
    intro hHeld
    (try simp only [Act.put, sA, sB, sC])
    refine wpAnyH_take (i := 5) (v := ?_) (by simp only [gA, gB, gC]; rfl) (by kernel_rfl) (by kernel_rfl) (by kernel_rfl) (by exact fun _ _ _ h => h) (Or.inl ⟨by rfl, ?_⟩) (by assumption) ?_; rotate_left; (focus (intro w hSw; (try dsimp only at hSw); go_simp; try with_reducible rfl)); (try simp only [Act.put, sA, sB, sC])
    refine wpAnyH_ready (rs := [7]) (by kernel_rfl) (by simp) ?_
    refine AllReadyH.cons (by simp only [gA, gB, gC]; rfl) (fun K hK => ?_) AllReadyH.nil
    obtain ⟨w4, hwz, hthz, hn4, hS4⟩ := put_mid hn3 0 (ecs (bE z)) (by show 0 + 9 ≤ 9; decide) (by decide) hS3 hbnZ
    replace hn4 : BlkL bn (ecs (bE z)) w4 := hn4
    refine step_store_part rfl _ _ rfl bn 0 rfl (ecs (bE z)) rfl hthz hse (ent_one _) hwz ?_
    (try simp only [Act.put, sA, sB, sC])
    refine hK.out _ _ (trivial) ?_
    clear hHeld hK
    intro hHeld
    clear hwz hthz
    (try simp only [Act.put, sA, sB, sC])
    refine wpAnyH_done (by kernel_rfl) ?_ _
    go_wp2_with fail
    go_meet
    exact ⟨bn, hbnZ, rfl, hn4, hS4⟩
  case rest =>
  obtain ⟨g, hgZ, rfl, hbe, hBZ⟩ := hcut
  have hB2 := Below.then hB1 hBZ
  have hwg : w.heap.size ≤ g := Nat.le_trans hB1.size hgZ
  clear hBZ hB1 kw hcv
  go_wp2_with fail
  refine (C.new wc (hI _ hB2)).mono ?_
  rintro r W3 ⟨p, S, rfl, hq3, hS3, hB3⟩
  have hL3 : LG Q (g + 1) W3 p [] := ⟨⟨S, hq3, fun k hk => Nat.le_trans hbe.2 (hS3 k hk)⟩, aud_nil⟩
  have hbe3 := stab_blk _ _ _ _ hbe hB3
  have hB03 := Below.then hB2 hB3
  have hre := hbe3.range
  obtain ⟨h10, h11, h12, h13⟩ := one_st hz78
  have kadd := hL3.add C (bE z) (may_small (bE_may hz78)) (Below.refl _ _) hbe3.2 (by decide) (hI _ hB03)
  rw [h10] at kadd
  clear hq3 hS3 hB3 hbe hB2 hL3
  go_wp2_with (first | (refine wpList_load_row rfl _ rfl g rfl (ecs (bE z)) hre hundE rfl hse ?_) | fail)
  refine kadd.mono ?_
  rintro r W4 ⟨rfl, hL4, hB4, -⟩
  have hbe4 : BlkL g (ecs (bE z)) W4 := ⟨hbe3.1.same (hB4.block g (Nat.lt_succ_self _)), Nat.lt_of_lt_of_le hbe3.2 hB4.size⟩
  have hB04 : Below w.heap.size w W4 := hB03.trans (hB4.mono (by omega))
  generalize audAdd [] (bE z) = st at *
  clear kadd hre hbe3 hB03 hB4 h10
  go_wp2_with fail
  refine (kw6 W4).mono ?_
  rintro r X ⟨rfl, hX⟩
  rw [← hX] at hbe4 hB04 hL4
  clear hX kw6
  have hcase : q6 = 0 ∨ q6 = 1 ∨ q6 = 2 ∨ q6 = 3 ∨ q6 = 4 ∨ q6 = 5 := by omega
  go_upto_block 0 with fail
  go_cut [] from 25 (fun wc => ∃ e1 : Ent, audMay e1 ≠ 0 ∧ e1.Small ∧ BlkL g (ecs e1) wc ∧ LG Q (g + 1) wc p st ∧ Below w.heap.size w wc)
  case first =>
    clear hq60 hq65 h11 h12 h13
    rcases hcase with hq6 | hq6 | hq6 | hq6 | hq6 | hq6
    · subst hq6
      have hw0 : IntKind.i64.wrap (14 + (n : Int)) = 14 + (n : Int) := by rw [IntKind.wrap_i64]; omega
      have hlg : ∀ W, Below X.heap.size X W → LG Q (g + 1) (W.setCell ⟨g, 6, none⟩ (.int .i64 (14 + (n : Int)))) p st := fun W q => by
        obtain ⟨S5, hq5, hS5⟩ := (hL4.below C q).q
        exact ⟨⟨S5, C.keep hq5 fun j hj => heap_setCell_other W ⟨g, 6, none⟩ j _ (by have := hS5 j hj; show j ≠ g; omega), hS5⟩, hL4.ok⟩
      have hset : ∀ W, Below X.heap.size X W → BlkL g (ecs { bE z with verb := 14 + (n : Int) }) (W.setCell ⟨g, 6, none⟩ (.int .i64 (14 + (n : Int)))) := fun W q => by
        have h1 := (stab_blk _ _ _ _ hbe4 q).1.set 6 (.int .i64 (14 + (n : Int))) (by simp [ecs])
        exact ⟨h1, h1.lt rfl⟩
      have hbl : ∀ W, Below X.heap.size X W → Below w.heap.size w (W.setCell ⟨g, 6, none⟩ (.int .i64 (14 + (n : Int)))) := fun W q => (Below.then hB04 q).setCell (p := ⟨g, 6, none⟩) hwg _
      have hcell : ∀ W, Below X.heap.size X W → W.cell? ⟨g, 6, none⟩ = some (.int .i64 14) ∧ W.frozen? ⟨g, 6, none⟩ = false := fun W q => (stab_blk _ _ _ _ hbe4 q).1 6 _ rfl
      have hmay : audMay { bE z with verb := 14 + (n : Int) } ≠ 0 := fun q => by
        obtain ⟨m0, m1, m2, m3, m4, m5, m6⟩ := may_zero.1 q
        have : 14 + (n : Int) ≤ 14 := m2
        omega
      have hsm : Ent.Small { bE z with verb := 14 + (n : Int) } := ⟨by show z.size < 100000; omega, by show z.size < 100000; omega⟩
      have hcx := (hcell X (Below.refl _ _)).1
      have hfx := (hcell X (Below.refl _ _)).2
      go_wp2_with fail
      go_meet
      exact ⟨_, hmay, hsm, hset X (Below.refl _ _), hlg X (Below.refl _ _), hbl X (Below.refl _ _)⟩
    · subst hq6
      have hw0 : IntKind.i64.wrap (1 - (n : Int)) = 1 - (n : Int) := by rw [IntKind.wrap_i64]; omega
      have hlg : ∀ W, Below X.heap.size X W → LG Q (g + 1) (W.setCell ⟨g, 6, none⟩ (.int .i64 (1 - (n : Int)))) p st := fun W q => by
        obtain ⟨S5, hq5, hS5⟩ := (hL4.below C q).q
        exact ⟨⟨S5, C.keep hq5 fun j hj => heap_setCell_other W ⟨g, 6, none⟩ j _ (by have := hS5 j hj; show j ≠ g; omega), hS5⟩, hL4.ok⟩
      have hset : ∀ W, Below X.heap.size X W → BlkL g (ecs { bE z with verb := 1 - (n : Int) }) (W.setCell ⟨g, 6, none⟩ (.int .i64 (1 - (n : Int)))) := fun W q => by
        have h1 := (stab_blk _ _ _ _ hbe4 q).1.set 6 (.int .i64 (1 - (n : Int))) (by simp [ecs])
        exact ⟨h1, h1.lt rfl⟩
      have hbl : ∀ W, Below X.heap.size X W → Below w.heap.size w (W.setCell ⟨g, 6, none⟩ (.int .i64 (1 - (n : Int)))) := fun W q => (Below.then hB04 q).setCell (p := ⟨g, 6, none⟩) hwg _
      have hcell : ∀ W, Below X.heap.size X W → W.cell? ⟨g, 6, none⟩ = some (.int .i64 14) ∧ W.frozen? ⟨g, 6, none⟩ = false := fun W q => (stab_blk _ _ _ _ hbe4 q).1 6 _ rfl
      have hmay : audMay { bE z with verb := 1 - (n : Int) } ≠ 0 := fun q => by
        obtain ⟨m0, m1, m2, m3, m4, m5, m6⟩ := may_zero.1 q
        have : 1 ≤ 1 - (n : Int) := m1
        omega
      have hsm : Ent.Small { bE z with verb := 1 - (n : Int) } := ⟨by show z.size < 100000; omega, by show z.size < 100000; omega⟩
      have hcx := (hcell X (Below.refl _ _)).1
      have hfx := (hcell X (Below.refl _ _)).2
      go_wp2_with fail
      go_meet
      exact ⟨_, hmay, hsm, hset X (Below.refl _ _), hlg X (Below.refl _ _), hbl X (Below.refl _ _)⟩
    · subst hq6
      have hlg : ∀ W, Below X.heap.size X W → LG Q (g + 1) (W.setCell ⟨g, 5, none⟩ (.string (z ++ zn))) p st := fun W q => by
        obtain ⟨S5, hq5, hS5⟩ := (hL4.below C q).q
        exact ⟨⟨S5, C.keep hq5 fun j hj => heap_setCell_other W ⟨g, 5, none⟩ j _ (by have := hS5 j hj; show j ≠ g; omega), hS5⟩, hL4.ok⟩
      have hset : ∀ W, Below X.heap.size X W → BlkL g (ecs { bE z with user := z ++ zn }) (W.setCell ⟨g, 5, none⟩ (.string (z ++ zn))) := fun W q => by
        have h1 := (stab_blk _ _ _ _ hbe4 q).1.set 5 (.string (z ++ zn)) (by simp [ecs])
        exact ⟨h1, h1.lt rfl⟩
      have hbl : ∀ W, Below X.heap.size X W → Below w.heap.size w (W.setCell ⟨g, 5, none⟩ (.string (z ++ zn))) := fun W q => (Below.then hB04 q).setCell (p := ⟨g, 5, none⟩) hwg _
      have hcell : ∀ W, Below X.heap.size X W → W.cell? ⟨g, 5, none⟩ = some (.string z) ∧ W.frozen? ⟨g, 5, none⟩ = false := fun W q => (stab_blk _ _ _ _ hbe4 q).1 5 _ rfl
      have hmay : audMay { bE z with user := z ++ zn } ≠ 0 := fun q => by
        obtain ⟨m0, m1, m2, m3, m4, m5, m6⟩ := may_zero.1 q
        have : (z ++ zn).size ≤ 78 := m3
        rw [ByteArray.size_append] at this
        omega
      have hsm : Ent.Small { bE z with user := z ++ zn } := ⟨by show (z ++ zn).size < 100000; rw [ByteArray.size_append]; omega, by show z.size < 100000; omega⟩
      have hb0 : Below X.heap.size X X.drew := (Below.refl _ _).drew
      have hss : ¬ 9223372036854775807 < z.size + zn.size := by omega
      have hss2 : ¬ 9223372036854775807 < 78 + n := by omega
      have hsz : (z ++ zn).size = 78 + n := by rw [ByteArray.size_append, hz78, hznn]
      go_upto_region 14 with fail
      refine wp_region_held_drew (S := (fun _ => True)) (by kernel_rfl) (trivial) ?_
      intro hHeld
      generalize X.drew = w0 at *
      refine wpAnyH_take (i := 0) (v := ?_) (by simp only [gA, gB, gC]; rfl) (by kernel_rfl) (by kernel_rfl) (by kernel_rfl) (by exact fun _ _ _ h => h) (Or.inl ⟨by rfl, ?_⟩) (by assumption) ?_; rotate_left; (focus (intro w hSw; (try dsimp only at hSw); go_simp; try with_reducible rfl)); (try simp only [Act.put, sA, sB, sC])
      refine wpAnyH_take (i := 2) (v := ?_) (by simp only [gA, gB, gC]; rfl) (by kernel_rfl) (by kernel_rfl) (by kernel_rfl) (by exact fun _ _ _ h => h) (Or.inl ⟨by rfl, ?_⟩) (by assumption) ?_; rotate_left; (focus (intro w hSw; (try dsimp only at hSw); go_simp; try with_reducible rfl)); (try simp only [Act.put, sA, sB, sC])
      refine wpAnyH_ready (rs := [1, 3]) (by kernel_rfl) (by simp) ?_
      refine AllReadyH.cons (by simp only [gA, gB, gC]; rfl) (fun K hK => ?_) ?_
      · skip
        have hcx := (hcell w0 hb0).1
        refine step_one rfl _ rfl ⟨g, 5, none⟩ rfl (.string z) hcx strP_load ?_
        (try simp only [Act.put, sA, sB, sC])
        refine hK.out _ _ (trivial) ?_
        clear hHeld hK
        intro hHeld
        clear hcx
        (try simp only [Act.put, sA, sB, sC])
        refine wpAnyH_ready (rs := [3]) (by kernel_rfl) (by simp) ?_
        refine AllReadyH.cons (by simp only [gA, gB, gC]; rfl) (fun K hK => ?_) AllReadyH.nil
        obtain ⟨w1, hrun, hzz, hb⟩ := zb_make w0 n (by omega)
        have hb1 := Below.then hb0 hb
        refine step_make rfl _ _ rfl rfl rfl hrun ?_
        (try simp only [Act.put, sA, sB, sC])
        refine hK.out _ _ (trivial) ?_
        clear hHeld hK
        intro hHeld
        clear hb hrun
        generalize w0.heap.size = pz at *
        (try simp only [Act.put, sA, sB, sC])
        refine wpAnyH_ready (rs := [4]) (by kernel_rfl) (by simp) ?_
        refine AllReadyH.cons (by simp only [gA, gB, gC]; rfl) (fun K hK => ?_) AllReadyH.nil
        refine step_convB rfl _ rfl rfl (hcn _ _ hzz) ?_
        (try simp only [Act.put, sA, sB, sC])
        refine hK.out _ _ (trivial) ?_
        clear hHeld hK
        intro hHeld
        (try simp only [Act.put, sA, sB, sC])
        refine wpAnyH_take (i := 5) (v := ?_) (by simp only [gA, gB, gC]; rfl) (by kernel_rfl) (by kernel_rfl) (by kernel_rfl) (by exact fun _ _ _ h => h) (Or.inl ⟨by rfl, ?_⟩) (by assumption) ?_; rotate_left; (focus (intro w hSw; (try dsimp only at hSw); go_simp; try with_reducible rfl)); (try simp only [Act.put, sA, sB, sC])
        refine wpAnyH_take (i := 6) (v := ?_) (by simp only [gA, gB, gC]; rfl) (by kernel_rfl) (by kernel_rfl) (by kernel_rfl) (by exact fun _ _ _ h => h) (Or.inl ⟨by rfl, ?_⟩) (by assumption) ?_; rotate_left; (focus (intro w hSw; (try dsimp only at hSw); go_simp; try with_reducible rfl)); (try simp only [Act.put, sA, sB, sC])
        refine wpAnyH_ready (rs := [7]) (by kernel_rfl) (by simp) ?_
        refine AllReadyH.cons (by simp only [gA, gB, gC]; rfl) (fun K hK => ?_) AllReadyH.nil
        refine step_store_one rfl _ _ rfl ⟨g, 5, none⟩ rfl (.string (z ++ zn)) rfl _ (hcell w1 hb1).1 (hcell w1 hb1).2 strP_store ⟨_, rfl⟩ ?_
        (try simp only [Act.put, sA, sB, sC])
        refine hK.out _ _ (trivial) ?_
        clear hHeld hK
        intro hHeld
        (try simp only [Act.put, sA, sB, sC])
        refine wpAnyH_done (by kernel_rfl) ?_ _
        go_wp2_with fail
        go_meet
        exact ⟨_, hmay, hsm, hset w1 hb1, hlg w1 hb1, hbl w1 hb1⟩
      refine AllReadyH.cons (by simp only [gA, gB, gC]; rfl) (fun K hK => ?_) AllReadyH.nil
      obtain ⟨w1, hrun, hzz, hb⟩ := zb_make w0 n (by omega)
      have hb1 := Below.then hb0 hb
      refine step_make rfl _ _ rfl rfl rfl hrun ?_
      (try simp only [Act.put, sA, sB, sC])
      refine hK.out _ _ (trivial) ?_
      clear hHeld hK
      intro hHeld
      clear hb hrun
      generalize w0.heap.size = pz at *
      (try simp only [Act.put, sA, sB, sC])
      refine wpAnyH_ready (rs := [1, 4]) (by kernel_rfl) (by simp) ?_
      refine AllReadyH.cons (by simp only [gA, gB, gC]; rfl) (fun K hK => ?_) ?_
      · skip
        have hcx := (hcell w1 hb1).1
        refine step_one rfl _ rfl ⟨g, 5, none⟩ rfl (.string z) hcx strP_load ?_
        (try simp only [Act.put, sA, sB, sC])
        refine hK.out _ _ (trivial) ?_
        clear hHeld hK
        intro hHeld
        clear hcx
        (try simp only [Act.put, sA, sB, sC])
        refine wpAnyH_ready (rs := [4]) (by kernel_rfl) (by simp) ?_
        refine AllReadyH.cons (by simp only [gA, gB, gC]; rfl) (fun K hK => ?_) AllReadyH.nil
        refine step_convB rfl _ rfl rfl (hcn _ _ hzz) ?_
        (try simp only [Act.put, sA, sB, sC])
        refine hK.out _ _ (trivial) ?_
        clear hHeld hK
        intro hHeld
        (try simp only [Act.put, sA, sB, sC])
        refine wpAnyH_take (i := 5) (v := ?_) (by simp only [gA, gB, gC]; rfl) (by kernel_rfl) (by kernel_rfl) (by kernel_rfl) (by exact fun _ _ _ h => h) (Or.inl ⟨by rfl, ?_⟩) (by assumption) ?_; rotate_left; (focus (intro w hSw; (try dsimp only at hSw); go_simp; try with_reducible rfl)); (try simp only [Act.put, sA, sB, sC])
        refine wpAnyH_take (i := 6) (v := ?_) (by simp only [gA, gB, gC]; rfl) (by kernel_rfl) (by kernel_rfl) (by kernel_rfl) (by exact fun _ _ _ h => h) (Or.inl ⟨by rfl, ?_⟩) (by assumption) ?_; rotate_left; (focus (intro w hSw; (try dsimp only at hSw); go_simp; try with_reducible rfl)); (try simp only [Act.put, sA, sB, sC])
        refine wpAnyH_ready (rs := [7]) (by kernel_rfl) (by simp) ?_
        refine AllReadyH.cons (by simp only [gA, gB, gC]; rfl) (fun K hK => ?_) AllReadyH.nil
        refine step_store_one rfl _ _ rfl ⟨g, 5, none⟩ rfl (.string (z ++ zn)) rfl _ (hcell w1 hb1).1 (hcell w1 hb1).2 strP_store ⟨_, rfl⟩ ?_
        (try simp only [Act.put, sA, sB, sC])
        refine hK.out _ _ (trivial) ?_
        clear hHeld hK
        intro hHeld
        (try simp only [Act.put, sA, sB, sC])
        refine wpAnyH_done (by kernel_rfl) ?_ _
        go_wp2_with fail
        go_meet
        exact ⟨_, hmay, hsm, hset w1 hb1, hlg w1 hb1, hbl w1 hb1⟩
      refine AllReadyH.cons (by simp only [gA, gB, gC]; rfl) (fun K hK => ?_) AllReadyH.nil
      refine step_convB rfl _ rfl rfl (hcn _ _ hzz) ?_
      (try simp only [Act.put, sA, sB, sC])
      refine hK.out _ _ (trivial) ?_
      clear hHeld hK
      intro hHeld
      (try simp only [Act.put, sA, sB, sC])
      refine wpAnyH_ready (rs := [1]) (by kernel_rfl) (by simp) ?_
      refine AllReadyH.cons (by simp only [gA, gB, gC]; rfl) (fun K hK => ?_) AllReadyH.nil
      have hcx := (hcell w1 hb1).1
      refine step_one rfl _ rfl ⟨g, 5, none⟩ rfl (.string z) hcx strP_load ?_
      (try simp only [Act.put, sA, sB, sC])
      refine hK.out _ _ (trivial) ?_
      clear hHeld hK
      intro hHeld
      clear hcx
      (try simp only [Act.put, sA, sB, sC])
      refine wpAnyH_take (i := 5) (v := ?_) (by simp only [gA, gB, gC]; rfl) (by kernel_rfl) (by kernel_rfl) (by kernel_rfl) (by exact fun _ _ _ h => h) (Or.inl ⟨by rfl, ?_⟩) (by assumption) ?_; rotate_left; (focus (intro w hSw; (try dsimp only at hSw); go_simp; try with_reducible rfl)); (try simp only [Act.put, sA, sB, sC])
      refine wpAnyH_take (i := 6) (v := ?_) (by simp only [gA, gB, gC]; rfl) (by kernel_rfl) (by kernel_rfl) (by kernel_rfl) (by exact fun _ _ _ h => h) (Or.inl ⟨by rfl, ?_⟩) (by assumption) ?_; rotate_left; (focus (intro w hSw; (try dsimp only at hSw); go_simp; try with_reducible rfl)); (try simp only [Act.put, sA, sB, sC])
      refine wpAnyH_ready (rs := [7]) (by kernel_rfl) (by simp) ?_
      refine AllReadyH.cons (by simp only [gA, gB, gC]; rfl) (fun K hK => ?_) AllReadyH.nil
      refine step_store_one rfl _ _ rfl ⟨g, 5, none⟩ rfl (.string (z ++ zn)) rfl _ (hcell w1 hb1).1 (hcell w1 hb1).2 strP_store ⟨_, rfl⟩ ?_
      (try simp only [Act.put, sA, sB, sC])
      refine hK.out _ _ (trivial) ?_
      clear hHeld hK
      intro hHeld
      (try simp only [Act.put, sA, sB, sC])
      refine wpAnyH_done (by kernel_rfl) ?_ _
      go_wp2_with fail
      go_meet
      exact ⟨_, hmay, hsm, hset w1 hb1, hlg w1 hb1, hbl w1 hb1⟩
    · subst hq6
      have hlg : ∀ W, Below X.heap.size X W → LG Q (g + 1) (W.setCell ⟨g, 7, none⟩ (.string (z ++ zn))) p st := fun W q => by
        obtain ⟨S5, hq5, hS5⟩ := (hL4.below C q).q
        exact ⟨⟨S5, C.keep hq5 fun j hj => heap_setCell_other W ⟨g, 7, none⟩ j _ (by have := hS5 j hj; show j ≠ g; omega), hS5⟩, hL4.ok⟩
      have hset : ∀ W, Below X.heap.size X W → BlkL g (ecs { bE z with object := z ++ zn }) (W.setCell ⟨g, 7, none⟩ (.string (z ++ zn))) := fun W q => by
        have h1 := (stab_blk _ _ _ _ hbe4 q).1.set 7 (.string (z ++ zn)) (by simp [ecs])
        exact ⟨h1, h1.lt rfl⟩
      have hbl : ∀ W, Below X.heap.size X W → Below w.heap.size w (W.setCell ⟨g, 7, none⟩ (.string (z ++ zn))) := fun W q => (Below.then hB04 q).setCell (p := ⟨g, 7, none⟩) hwg _
      have hcell : ∀ W, Below X.heap.size X W → W.cell? ⟨g, 7, none⟩ = some (.string z) ∧ W.frozen? ⟨g, 7, none⟩ = false := fun W q => (stab_blk _ _ _ _ hbe4 q).1 7 _ rfl
      have hmay : audMay { bE z with object := z ++ zn } ≠ 0 := fun q => by
        obtain ⟨m0, m1, m2, m3, m4, m5, m6⟩ := may_zero.1 q
        have : (z ++ zn).size ≤ 78 := m4
        rw [ByteArray.size_append] at this
        omega
      have hsm : Ent.Small { bE z with object := z ++ zn } := ⟨by show z.size < 100000; omega, by show (z ++ zn).size < 100000; rw [ByteArray.size_append]; omega⟩
      have hb0 : Below X.heap.size X X.drew := (Below.refl _ _).drew
      have hss : ¬ 9223372036854775807 < z.size + zn.size := by omega
      have hss2 : ¬ 9223372036854775807 < 78 + n := by omega
      have hsz : (z ++ zn).size = 78 + n := by rw [ByteArray.size_append, hz78, hznn]
      go_upto_region 16 with fail
      refine wp_region_held_drew (S := (fun _ => True)) (by kernel_rfl) (trivial) ?_
      intro hHeld
      generalize X.drew = w0 at *
      refine wpAnyH_take (i := 0) (v := ?_) (by simp only [gA, gB, gC]; rfl) (by kernel_rfl) (by kernel_rfl) (by kernel_rfl) (by exact fun _ _ _ h => h) (Or.inl ⟨by rfl, ?_⟩) (by assumption) ?_; rotate_left; (focus (intro w hSw; (try dsimp only at hSw); go_simp; try with_reducible rfl)); (try simp only [Act.put, sA, sB, sC])
      refine wpAnyH_take (i := 2) (v := ?_) (by simp only [gA, gB, gC]; rfl) (by kernel_rfl) (by kernel_rfl) (by kernel_rfl) (by exact fun _ _ _ h => h) (Or.inl ⟨by rfl, ?_⟩) (by assumption) ?_; rotate_left; (focus (intro w hSw; (try dsimp only at hSw); go_simp; try with_reducible rfl)); (try simp only [Act.put, sA, sB, sC])
      refine wpAnyH_ready (rs := [1, 3]) (by kernel_rfl) (by simp) ?_
      refine AllReadyH.cons (by simp only [gA, gB, gC]; rfl) (fun K hK => ?_) ?_
      · skip
        have hcx := (hcell w0 hb0).1
        refine step_one rfl _ rfl ⟨g, 7, none⟩ rfl (.string z) hcx strP_load ?_
        (try simp only [Act.put, sA, sB, sC])
        refine hK.out _ _ (trivial) ?_
        clear hHeld hK
        intro hHeld
        clear hcx
        (try simp only [Act.put, sA, sB, sC])
        refine wpAnyH_ready (rs := [3]) (by kernel_rfl) (by simp) ?_
        refine AllReadyH.cons (by simp only [gA, gB, gC]; rfl) (fun K hK => ?_) AllReadyH.nil
        obtain ⟨w1, hrun, hzz, hb⟩ := zb_make w0 n (by omega)
        have hb1 := Below.then hb0 hb
        refine step_make rfl _ _ rfl rfl rfl hrun ?_
        (try simp only [Act.put, sA, sB, sC])
        refine hK.out _ _ (trivial) ?_
        clear hHeld hK
        intro hHeld
        clear hb hrun
        generalize w0.heap.size = pz at *
        (try simp only [Act.put, sA, sB, sC])
        refine wpAnyH_ready (rs := [4]) (by kernel_rfl) (by simp) ?_
        refine AllReadyH.cons (by simp only [gA, gB, gC]; rfl) (fun K hK => ?_) AllReadyH.nil
        refine step_convB rfl _ rfl rfl (hcn _ _ hzz) ?_
        (try simp only [Act.put, sA, sB, sC])
        refine hK.out _ _ (trivial) ?_
        clear hHeld hK
        intro hHeld
        (try simp only [Act.put, sA, sB, sC])
        refine wpAnyH_take (i := 5) (v := ?_) (by simp only [gA, gB, gC]; rfl) (by kernel_rfl) (by kernel_rfl) (by kernel_rfl) (by exact fun _ _ _ h => h) (Or.inl ⟨by rfl, ?_⟩) (by assumption) ?_; rotate_left; (focus (intro w hSw; (try dsimp only at hSw); go_simp; try with_reducible rfl)); (try simp only [Act.put, sA, sB, sC])
        refine wpAnyH_take (i := 6) (v := ?_) (by simp only [gA, gB, gC]; rfl) (by kernel_rfl) (by kernel_rfl) (by kernel_rfl) (by exact fun _ _ _ h => h) (Or.inl ⟨by rfl, ?_⟩) (by assumption) ?_; rotate_left; (focus (intro w hSw; (try dsimp only at hSw); go_simp; try with_reducible rfl)); (try simp only [Act.put, sA, sB, sC])
        refine wpAnyH_ready (rs := [7]) (by kernel_rfl) (by simp) ?_
        refine AllReadyH.cons (by simp only [gA, gB, gC]; rfl) (fun K hK => ?_) AllReadyH.nil
        refine step_store_one rfl _ _ rfl ⟨g, 7, none⟩ rfl (.string (z ++ zn)) rfl _ (hcell w1 hb1).1 (hcell w1 hb1).2 strP_store ⟨_, rfl⟩ ?_
        (try simp only [Act.put, sA, sB, sC])
        refine hK.out _ _ (trivial) ?_
        clear hHeld hK
        intro hHeld
        (try simp only [Act.put, sA, sB, sC])
        refine wpAnyH_done (by kernel_rfl) ?_ _
        go_wp2_with fail
        go_meet
        exact ⟨_, hmay, hsm, hset w1 hb1, hlg w1 hb1, hbl w1 hb1⟩
      refine AllReadyH.cons (by simp only [gA, gB, gC]; rfl) (fun K hK => ?_) AllReadyH.nil
      obtain ⟨w1, hrun, hzz, hb⟩ := zb_make w0 n (by omega)
      have hb1 := Below.then hb0 hb
      refine step_make rfl _ _ rfl rfl rfl hrun ?_
      (try simp only [Act.put, sA, sB, sC])
      refine hK.out _ _ (trivial) ?_
      clear hHeld hK
      intro hHeld
      clear hb hrun
      generalize w0.heap.size = pz at *
      (try simp only [Act.put, sA, sB, sC])
      refine wpAnyH_ready (rs := [1, 4]) (by kernel_rfl) (by simp) ?_
      refine AllReadyH.cons (by simp only [gA, gB, gC]; rfl) (fun K hK => ?_) ?_
      · skip
        have hcx := (hcell w1 hb1).1
        refine step_one rfl _ rfl ⟨g, 7, none⟩ rfl (.string z) hcx strP_load ?_
        (try simp only [Act.put, sA, sB, sC])
        refine hK.out _ _ (trivial) ?_
        clear hHeld hK
        intro hHeld
        clear hcx
        (try simp only [Act.put, sA, sB, sC])
        refine wpAnyH_ready (rs := [4]) (by kernel_rfl) (by simp) ?_
        refine AllReadyH.cons (by simp only [gA, gB, gC]; rfl) (fun K hK => ?_) AllReadyH.nil
        refine step_convB rfl _ rfl rfl (hcn _ _ hzz) ?_
        (try simp only [Act.put, sA, sB, sC])
        refine hK.out _ _ (trivial) ?_
        clear hHeld hK
        intro hHeld
        (try simp only [Act.put, sA, sB, sC])
        refine wpAnyH_take (i := 5) (v := ?_) (by simp only [gA, gB, gC]; rfl) (by kernel_rfl) (by kernel_rfl) (by kernel_rfl) (by exact fun _ _ _ h => h) (Or.inl ⟨by rfl, ?_⟩) (by assumption) ?_; rotate_left; (focus (intro w hSw; (try dsimp only at hSw); go_simp; try with_reducible rfl)); (try simp only [Act.put, sA, sB, sC])
        refine wpAnyH_take (i := 6) (v := ?_) (by simp only [gA, gB, gC]; rfl) (by kernel_rfl) (by kernel_rfl) (by kernel_rfl) (by exact fun _ _ _ h => h) (Or.inl ⟨by rfl, ?_⟩) (by assumption) ?_; rotate_left; (focus (intro w hSw; (try dsimp only at hSw); go_simp; try with_reducible rfl)); (try simp only [Act.put, sA, sB, sC])
        refine wpAnyH_ready (rs := [7]) (by kernel_rfl) (by simp) ?_
        refine AllReadyH.cons (by simp only [gA, gB, gC]; rfl) (fun K hK => ?_) AllReadyH.nil
        refine step_store_one rfl _ _ rfl ⟨g, 7, none⟩ rfl (.string (z ++ zn)) rfl _ (hcell w1 hb1).1 (hcell w1 hb1).2 strP_store ⟨_, rfl⟩ ?_
        (try simp only [Act.put, sA, sB, sC])
        refine hK.out _ _ (trivial) ?_
        clear hHeld hK
        intro hHeld
        (try simp only [Act.put, sA, sB, sC])
        refine wpAnyH_done (by kernel_rfl) ?_ _
        go_wp2_with fail
        go_meet
        exact ⟨_, hmay, hsm, hset w1 hb1, hlg w1 hb1, hbl w1 hb1⟩
      refine AllReadyH.cons (by simp only [gA, gB, gC]; rfl) (fun K hK => ?_) AllReadyH.nil
      refine step_convB rfl _ rfl rfl (hcn _ _ hzz) ?_
      (try simp only [Act.put, sA, sB, sC])
      refine hK.out _ _ (trivial) ?_
      clear hHeld hK
      intro hHeld
      (try simp only [Act.put, sA, sB, sC])
      refine wpAnyH_ready (rs := [1]) (by kernel_rfl) (by simp) ?_
      refine AllReadyH.cons (by simp only [gA, gB, gC]; rfl) (fun K hK => ?_) AllReadyH.nil
      have hcx := (hcell w1 hb1).1
      refine step_one rfl _ rfl ⟨g, 7, none⟩ rfl (.string z) hcx strP_load ?_
      (try simp only [Act.put, sA, sB, sC])
      refine hK.out _ _ (trivial) ?_
      clear hHeld hK
      intro hHeld
      clear hcx
      (try simp only [Act.put, sA, sB, sC])
      refine wpAnyH_take (i := 5) (v := ?_) (by simp only [gA, gB, gC]; rfl) (by kernel_rfl) (by kernel_rfl) (by kernel_rfl) (by exact fun _ _ _ h => h) (Or.inl ⟨by rfl, ?_⟩) (by assumption) ?_; rotate_left; (focus (intro w hSw; (try dsimp only at hSw); go_simp; try with_reducible rfl)); (try simp only [Act.put, sA, sB, sC])
      refine wpAnyH_take (i := 6) (v := ?_) (by simp only [gA, gB, gC]; rfl) (by kernel_rfl) (by kernel_rfl) (by kernel_rfl) (by exact fun _ _ _ h => h) (Or.inl ⟨by rfl, ?_⟩) (by assumption) ?_; rotate_left; (focus (intro w hSw; (try dsimp only at hSw); go_simp; try with_reducible rfl)); (try simp only [Act.put, sA, sB, sC])
      refine wpAnyH_ready (rs := [7]) (by kernel_rfl) (by simp) ?_
      refine AllReadyH.cons (by simp only [gA, gB, gC]; rfl) (fun K hK => ?_) AllReadyH.nil
      refine step_store_one rfl _ _ rfl ⟨g, 7, none⟩ rfl (.string (z ++ zn)) rfl _ (hcell w1 hb1).1 (hcell w1 hb1).2 strP_store ⟨_, rfl⟩ ?_
      (try simp only [Act.put, sA, sB, sC])
      refine hK.out _ _ (trivial) ?_
      clear hHeld hK
      intro hHeld
      (try simp only [Act.put, sA, sB, sC])
      refine wpAnyH_done (by kernel_rfl) ?_ _
      go_wp2_with fail
      go_meet
      exact ⟨_, hmay, hsm, hset w1 hb1, hlg w1 hb1, hbl w1 hb1⟩
    · subst hq6
      have hw0 : IntKind.i64.wrap (255 + (n : Int)) = 255 + (n : Int) := by rw [IntKind.wrap_i64]; omega
      have hlg : ∀ W, Below X.heap.size X W → LG Q (g + 1) (W.setCell ⟨g, 8, none⟩ (.int .i64 (255 + (n : Int)))) p st := fun W q => by
        obtain ⟨S5, hq5, hS5⟩ := (hL4.below C q).q
        exact ⟨⟨S5, C.keep hq5 fun j hj => heap_setCell_other W ⟨g, 8, none⟩ j _ (by have := hS5 j hj; show j ≠ g; omega), hS5⟩, hL4.ok⟩
      have hset : ∀ W, Below X.heap.size X W → BlkL g (ecs { bE z with verdict := 255 + (n : Int) }) (W.setCell ⟨g, 8, none⟩ (.int .i64 (255 + (n : Int)))) := fun W q => by
        have h1 := (stab_blk _ _ _ _ hbe4 q).1.set 8 (.int .i64 (255 + (n : Int))) (by simp [ecs])
        exact ⟨h1, h1.lt rfl⟩
      have hbl : ∀ W, Below X.heap.size X W → Below w.heap.size w (W.setCell ⟨g, 8, none⟩ (.int .i64 (255 + (n : Int)))) := fun W q => (Below.then hB04 q).setCell (p := ⟨g, 8, none⟩) hwg _
      have hcell : ∀ W, Below X.heap.size X W → W.cell? ⟨g, 8, none⟩ = some (.int .i64 255) ∧ W.frozen? ⟨g, 8, none⟩ = false := fun W q => (stab_blk _ _ _ _ hbe4 q).1 8 _ rfl
      have hmay : audMay { bE z with verdict := 255 + (n : Int) } ≠ 0 := fun q => by
        obtain ⟨m0, m1, m2, m3, m4, m5, m6⟩ := may_zero.1 q
        have : 255 + (n : Int) ≤ 255 := m6
        omega
      have hsm : Ent.Small { bE z with verdict := 255 + (n : Int) } := ⟨by show z.size < 100000; omega, by show z.size < 100000; omega⟩
      have hcx := (hcell X (Below.refl _ _)).1
      have hfx := (hcell X (Below.refl _ _)).2
      go_wp2_with fail
      go_meet
      exact ⟨_, hmay, hsm, hset X (Below.refl _ _), hlg X (Below.refl _ _), hbl X (Below.refl _ _)⟩
    · subst hq6
      have hw0 : IntKind.i64.wrap (3 + (n : Int)) = 3 + (n : Int) := by rw [IntKind.wrap_i64]; omega
      have hlg : ∀ W, Below X.heap.size X W → LG Q (g + 1) (W.setCell ⟨g, 1, none⟩ (.int .i64 (3 + (n : Int)))) p st := fun W q => by
        obtain ⟨S5, hq5, hS5⟩ := (hL4.below C q).q
        exact ⟨⟨S5, C.keep hq5 fun j hj => heap_setCell_other W ⟨g, 1, none⟩ j _ (by have := hS5 j hj; show j ≠ g; omega), hS5⟩, hL4.ok⟩
      have hset : ∀ W, Below X.heap.size X W → BlkL g (ecs { bE z with label := ⟨3 + (n : Int), 255, 0, 0⟩ }) (W.setCell ⟨g, 1, none⟩ (.int .i64 (3 + (n : Int)))) := fun W q => by
        have h1 := (stab_blk _ _ _ _ hbe4 q).1.set 1 (.int .i64 (3 + (n : Int))) (by simp [ecs])
        exact ⟨h1, h1.lt rfl⟩
      have hbl : ∀ W, Below X.heap.size X W → Below w.heap.size w (W.setCell ⟨g, 1, none⟩ (.int .i64 (3 + (n : Int)))) := fun W q => (Below.then hB04 q).setCell (p := ⟨g, 1, none⟩) hwg _
      have hcell : ∀ W, Below X.heap.size X W → W.cell? ⟨g, 1, none⟩ = some (.int .i64 3) ∧ W.frozen? ⟨g, 1, none⟩ = false := fun W q => (stab_blk _ _ _ _ hbe4 q).1 1 _ rfl
      have hmay : audMay { bE z with label := ⟨3 + (n : Int), 255, 0, 0⟩ } ≠ 0 := fun q => by
        obtain ⟨m0, m1, m2, m3, m4, m5, m6⟩ := may_zero.1 q
        have := (chkL_zero.1 m0).s1
        have h2 : 3 + (n : Int) ≤ 3 := by simpa using this
        omega
      have hsm : Ent.Small { bE z with label := ⟨3 + (n : Int), 255, 0, 0⟩ } := ⟨by show z.size < 100000; omega, by show z.size < 100000; omega⟩
      have hcx := (hcell X (Below.refl _ _)).1
      have hfx := (hcell X (Below.refl _ _)).2
      go_wp2_with fail
      go_meet
      exact ⟨_, hmay, hsm, hset X (Below.refl _ _), hlg X (Below.refl _ _), hbl X (Below.refl _ _)⟩
  case rest =>
  clear hbe4 hL4 hB04 hcase
  obtain ⟨e1, hm1, hsm1, hb1, hL1, hB⟩ := hcut
  obtain ⟨Y, hY⟩ : ∃ Y, Y = wc := ⟨_, rfl⟩
  subst hY
  obtain ⟨hE1, hN1⟩ := may_one hm1 st
  have kadd := hL1.add C e1 hsm1 (Below.refl _ _) hb1.2 (by rw [h13]; decide) (hI _ hB)
  rw [hE1, hN1] at kadd
  have hr1 := hb1.range
  clear hE1 hN1 hm1 hsm1
  go_wp2_with (first | (refine wpList_load_row rfl _ rfl g rfl (ecs e1) hr1 hundE rfl hse ?_) | fail)
  refine kadd.mono ?_
  rintro r Y1 ⟨rfl, hL2, hB2, -⟩
  have hB02 : Below w.heap.size w Y1 := hB.trans (hB2.mono (by omega))
  obtain ⟨S2, hq2, -⟩ := hL2.q
  have ka := C.all lab3 lab3_GL Y1 (hI _ hB02) hq2 hL2.ok (by rw [h13]; decide)
  have ks := fun W (q : Below Y1.heap.size Y1 W) => C.seen lab3 lab3_GL W (hI _ (Below.then hB02 q)) (C.below hq2 q) hL2.ok (by rw [h13]; decide)
  obtain ⟨R1, hR1⟩ : ∃ R1, audAll st lab3 = R1 := ⟨_, rfl⟩
  obtain ⟨R2, hR2⟩ : ∃ R2, audSeen st lab3 = R2 := ⟨_, rfl⟩
  rw [hR1] at ka h11
  simp only [hR2] at ks
  rw [hR2] at h12
  clear kadd hr1 hb1 hL1 hB hB2 hR1 hR2 hq2 hL2 h13
  go_wp2_with fail
  refine ka.mono ?_
  rintro r Y2 ⟨v2, rfl, ht2, hb2⟩
  obtain ⟨a2, c2, rfl, -, -, -⟩ := ht2.sl
  rw [h11]
  clear ka ht2 h11
  go_wp2_with fail
  refine (ks Y2 hb2).mono ?_
  rintro r Y3 ⟨v3, rfl, ht3, hb3⟩
  obtain ⟨a3, c3, rfl, -, -, -⟩ := ht3.sl
  rw [h12]
  have hfin := Below.then (Below.then hB02 hb2) hb3
  clear ks ht3 h12
  go_wp2_with fail
  go_ret
  exact ⟨rfl, hfin⟩
end Go.Proofs.YtohocomemkckeaaDoor
