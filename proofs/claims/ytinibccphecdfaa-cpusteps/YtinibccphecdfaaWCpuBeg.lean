/-
  A BEGINNING AS THE LAWS OF CHAPTER 16 ARE HANDED IT: a processor made of it.
-/
import Derived.Test.YtinibccphecdfaaWCpuPcs
namespace Go.Proofs.Ytinibccphecdfaa
open Go.RowKit
set_option maxRecDepth 8000
set_option linter.unusedSimpArgs false
set_option linter.unusedVariables false

def begK (c : Cp) (k : Nat) : Cp := ⟨c.seg % 5, c.off % 5, c.ring % 8, c.a, (c.ps.map bgP).take k ++ [⟨0, 0, 0⟩, ⟨0, 0, 0⟩, ⟨0, 0, 0⟩, ⟨0, 0, 0⟩].drop k, [], false⟩
theorem begK_len {c : Cp} (h : c.ps.length = 4) (k : Nat) : (begK c k).ps.length = 4 := by
  simp only [begK, List.length_append, List.length_take, List.length_drop, List.length_map, List.length_cons, List.length_nil, h]
  omega
theorem begK_step {c : Cp} (h : c.ps.length = 4) {k : Nat} (hk : k < 4) : setM (stCs (begK c k) nilS) (4 + k * 3) (ptr3 (bgP (c.ps.getD k ⟨0, 0, 0⟩))) = stCs (begK c (k + 1)) nilS := by
  obtain ⟨p0, p1, p2, p3, hl⟩ := four h
  obtain ⟨s, o, rg, a, ps, st, hl'⟩ := c
  simp only at hl
  subst hl
  match k, hk with
  | 0, _ => rfl
  | 1, _ => rfl
  | 2, _ => rfl
  | 3, _ => rfl
theorem begK_four {c : Cp} (h : c.ps.length = 4) (v : Value) : stCs (begK c 4) v = stCs (begC c) v := by
  unfold stCs begK begC
  simp only
  rw [List.take_of_length_le (by rw [List.length_map]; omega), List.drop_of_length_le (by show 4 ≤ 4; omega), List.append_nil]
theorem bg_st (c : Cp) (v : Value) : stCs c v = bgCs c v ++ [.bool c.hl] := by simp [stCs, bgCs]
theorem bg_at {c : Cp} (v : Value) (h : c.ps.length = 4) {i : Nat} (hi : i < 17) : (bgCs c v)[i]? = (stCs c v)[i]? := by
  have hl : (stCs c v).length = 18 := st_len h
  rw [bg_st, List.getElem?_append_left (by rw [bg_st, List.length_append] at hl; simp at hl; omega)]
theorem i64C_load (w : World) (y : Addr) (v : Value) (h : w.cell? y = some v) : (Instr.loadAt 2 (.pointer (some y))).run Try.prog w = .ok v w := by
  have h1 := Try.underlying2
  go_simp
theorem crsB_store (w : World) (y : Addr) (u v : Value) {b : Option Addr} {n c : Nat} (hs : v = .slice b n c) (hc : w.cell? y = some u) (hf : w.frozen? y = false) : (Instr.storeAt 26 (.pointer (some y)) v).run Try.prog w = .ok () (w.setCell y v) := by
  subst hs
  have h1 := Try.underlying26
  go_simp
section
variable {ops : Array Oper} {o : Oper} {a : Act} {w : World} {Q : Exit → Act → World → Prop} {T : TypeId}
theorem step_storeK {K : Act → World → Prop} {E : Prop} (hg : o.guard = none) (x z : Operand) (ho : o.op = .store T x z) (y : Addr) (hx : a.eval x = .pointer (some y)) (v : Value) (hz : a.eval z = v) (hs : (Instr.storeAt T (.pointer (some y)) v).run Try.prog w = .ok () (w.setCell y v)) (hK : K (a.put o.dst undef) (w.setCell y v)) :
    if Region.wanted o (yielded ops a.tmps) = true then Oper.wp Try.prog o a w K Q else E := by
  have hw : Region.wanted o (yielded ops a.tmps) = true := by simp [Region.wanted, hg]
  rw [if_pos hw]
  unfold Oper.wp
  simp [execOp, ho, hx, hz, hs, Result.andThen]
  exact hK
end
set_option maxRecDepth 8000 in
set_option maxHeartbeats 4000000 in
theorem cbeg_any (c : Cp) (a1 : Option Addr) (c1 : Nat) (w : World) (hX : BegX w c a1) :
    Calls Try.prog 11 #[.agg (bgCs c (.slice a1 c.st.length c1)).toArray] w fun e w' => ∃ v, e = .returned (.agg (stCs (begC c) v).toArray) ∧ OwnR 84 3 frc w' w.heap.size v (begC c).st ∧ Below w.heap.size w w' := by
  have hundS := Try.underlying33
  have hszS : (Try.prog.info? 33).map (·.size) = some 18 := by kernel_rfl
  have hszP : (Try.prog.info? 24).map (·.size) = some 3 := by kernel_rfl
  have h4 := hX.ps
  have hszK : (Try.prog.info? 33).map (·.size) = some (stCs (begK c 0) nilS).length := by rw [st_len (begK_len h4 0)]; exact hszS
  obtain ⟨n, hnn⟩ : ∃ n, c.st.length = n := ⟨_, rfl⟩
  have r1 := hX.row
  have hnl := hX.len
  rw [hnn] at hnl ⊢
  replace hnn : Aside (c.st.length = n) := hnn
  clear hX
  have hx0 : BlkL w.heap.size (bgCs c (.slice a1 n c1)) (w.alloc (.cells (bgCs c (.slice a1 n c1)).toArray 28)) := blkl_alloc w (bgCs c (.slice a1 n c1)).toArray 28
  have hB0 := alloc_below w (.cells (bgCs c (.slice a1 n c1)).toArray 28)
  have hr0 : StAt (w.alloc (.cells (bgCs c (.slice a1 n c1)).toArray 28)).heap.size zeroC nilS ((w.alloc (.cells (bgCs c (.slice a1 n c1)).toArray 28)).alloc (.cells zS 33)) := ⟨rfl, blkl_alloc _ (stCs zeroC nilS).toArray 33⟩
  have hb1 := alloc_below (w.alloc (.cells (bgCs c (.slice a1 n c1)).toArray 28)) (.cells zS 33)
  have hsw : (w.alloc (.cells (bgCs c (.slice a1 n c1)).toArray 28)).heap.size = w.heap.size + 1 := by simp
  have hx1 := stab_blk _ _ _ _ hx0 hb1
  have hB1 := Below.then hB0 hb1
  rw [hsw] at hr0
  clear hx0 hB0 hb1 hsw
  obtain ⟨X, hXc⟩ : ∃ X, bgCs c (.slice a1 n c1) = X := ⟨_, rfl⟩
  have x0 := (hx1.1 0 (.int .i64 c.seg) rfl).1
  have x1 := (hx1.1 1 (.int .i64 c.off) rfl).1
  have x2 := (hx1.1 2 (.int .i64 c.ring) rfl).1
  have x3 := (hx1.1 3 (.int .i64 c.a) rfl).1
  rw [hXc] at x0 x1 x2 x3 hx1 hB1 hr0 ⊢
  replace hXc : Aside (bgCs c (.slice a1 n c1) = X) := hXc
  go_enter Try.func11, Try.ntmps11
  go_upto_region 1 with fail
  generalize (w.alloc (.cells X.toArray 28)).alloc (.cells zS 33) = W0 at *
  have hlt := hx1.2
  have hr1 := hr0.blk.2
  have hS0 := (Below.refl W0.heap.size W0).drew
  go_cut [3] from 4 (fun t3 wc => ∃ bt : Nat, t3 = .pointer (some ⟨bt, 0, none⟩) ∧ w.heap.size + 1 < bt ∧ StAt bt (begK c 0) nilS wc ∧ Below W0.heap.size W0 wc)
  case first =>
    skip
    refine wp_region_held_drew (S := (fun W => Below W0.heap.size W0 W)) (by kernel_rfl) (by exact hS0) ?_
    intro hHeld
    generalize W0.drew = w0 at *
    have hz : StAt w0.heap.size zeroC nilS (w0.alloc (.cells zS 33)) := ⟨rfl, blkl_alloc w0 (stCs zeroC nilS).toArray 33⟩
    have hbA := alloc_below w0 (.cells zS 33)
    have hSA := Below.then hS0 hbA
    have hSz := hS0.size
    obtain ⟨W1, hW1, hth1, hs1, hk1⟩ := put_st hz (d := begK c 0) (begK_len h4 0) nilS
    have hS1 := hk1 _ _ hSz hSA
    refine wpAnyH_take (i := 0) (v := ?_) (by simp only [gA, gB, gC]; rfl) (by kernel_rfl) (by kernel_rfl) (by kernel_rfl) (by exact fun _ _ _ h => h) (Or.inl ⟨by rfl, ?_⟩) (by assumption) ?_; rotate_left; (focus (intro w hSw; (try dsimp only at hSw); go_simp; try with_reducible rfl)); (try simp only [Act.put, sA, sB, sC])
    refine wpAnyH_take (i := 1) (v := _) (by simp only [gA, gB, gC]; rfl) (by kernel_rfl) (by kernel_rfl) (by kernel_rfl) (by exact fun _ _ _ h => h) (yields_cellI (by rfl) _ rfl ⟨w.heap.size, 0, none⟩ rfl (.int .i64 c.seg) (fun _ q => (q.cell (p := ⟨w.heap.size, 0, none⟩) hlt).trans x0) intI_load) (by assumption) ?_; (try simp only [Act.put, sA, sB, sC])
    refine wpAnyH_take (i := 3) (v := ?_) (by simp only [gA, gB, gC]; rfl) (by kernel_rfl) (by kernel_rfl) (by kernel_rfl) (by exact fun _ _ _ h => h) (Or.inl ⟨by rfl, ?_⟩) (by assumption) ?_; rotate_left; (focus (intro w hSw; (try dsimp only at hSw); go_simp; try with_reducible rfl)); (try simp only [Act.put, sA, sB, sC])
    refine wpAnyH_take (i := 4) (v := _) (by simp only [gA, gB, gC]; rfl) (by kernel_rfl) (by kernel_rfl) (by kernel_rfl) (by exact fun _ _ _ h => h) (yields_cellI (by rfl) _ rfl ⟨w.heap.size, 1, none⟩ rfl (.int .i64 c.off) (fun _ q => (q.cell (p := ⟨w.heap.size, 1, none⟩) hlt).trans x1) intI_load) (by assumption) ?_; (try simp only [Act.put, sA, sB, sC])
    refine wpAnyH_take (i := 6) (v := ?_) (by simp only [gA, gB, gC]; rfl) (by kernel_rfl) (by kernel_rfl) (by kernel_rfl) (by exact fun _ _ _ h => h) (Or.inl ⟨by rfl, ?_⟩) (by assumption) ?_; rotate_left; (focus (intro w hSw; (try dsimp only at hSw); go_simp; try with_reducible rfl)); (try simp only [Act.put, sA, sB, sC])
    refine wpAnyH_take (i := 7) (v := _) (by simp only [gA, gB, gC]; rfl) (by kernel_rfl) (by kernel_rfl) (by kernel_rfl) (by exact fun _ _ _ h => h) (yields_cellI (by rfl) _ rfl ⟨w.heap.size, 2, none⟩ rfl (.int .i64 c.ring) (fun _ q => (q.cell (p := ⟨w.heap.size, 2, none⟩) hlt).trans x2) intI_load) (by assumption) ?_; (try simp only [Act.put, sA, sB, sC])
    refine wpAnyH_take (i := 9) (v := ?_) (by simp only [gA, gB, gC]; rfl) (by kernel_rfl) (by kernel_rfl) (by kernel_rfl) (by exact fun _ _ _ h => h) (Or.inl ⟨by rfl, ?_⟩) (by assumption) ?_; rotate_left; (focus (intro w hSw; (try dsimp only at hSw); go_simp; try with_reducible rfl)); (try simp only [Act.put, sA, sB, sC])
    refine wpAnyH_take (i := 10) (v := _) (by simp only [gA, gB, gC]; rfl) (by kernel_rfl) (by kernel_rfl) (by kernel_rfl) (by exact fun _ _ _ h => h) (yields_cellI (by rfl) _ rfl ⟨w.heap.size, 3, none⟩ rfl (.int .i64 c.a) (fun _ q => (q.cell (p := ⟨w.heap.size, 3, none⟩) hlt).trans x3) i64C_load) (by assumption) ?_; (try simp only [Act.put, sA, sB, sC])
    refine wpAnyH_ready (rs := [2, 12]) (by kernel_rfl) (by simp) ?_
    refine AllReadyH.cons (by simp only [gA, gB, gC]; rfl) (fun K hK => ?_) ?_
    · go_simp
      go_at_call 16
      refine (w16_any c.seg 5 (by decide) (by decide) _).mono ?_
      rintro e w' ⟨rfl, hw⟩
      rw [hw]
      clear hw w'
      refine hK.out _ _ (hS0) ?_
      clear hHeld hK
      intro hHeld
      (try simp only [Act.put, sA, sB, sC])
      refine wpAnyH_ready (rs := [5, 12]) (by kernel_rfl) (by simp) ?_
      refine AllReadyH.cons (by simp only [gA, gB, gC]; rfl) (fun K hK => ?_) ?_
      · go_simp
        go_at_call 16
        refine (w16_any c.off 5 (by decide) (by decide) _).mono ?_
        rintro e w' ⟨rfl, hw⟩
        rw [hw]
        clear hw w'
        refine hK.out _ _ (hS0) ?_
        clear hHeld hK
        intro hHeld
        (try simp only [Act.put, sA, sB, sC])
        refine wpAnyH_ready (rs := [8, 12]) (by kernel_rfl) (by simp) ?_
        refine AllReadyH.cons (by simp only [gA, gB, gC]; rfl) (fun K hK => ?_) ?_
        · go_simp
          go_at_call 16
          refine (w16_any c.ring 8 (by decide) (by decide) _).mono ?_
          rintro e w' ⟨rfl, hw⟩
          rw [hw]
          clear hw w'
          refine hK.out _ _ (hS0) ?_
          clear hHeld hK
          intro hHeld
          (try simp only [Act.put, sA, sB, sC])
          refine wpAnyH_take (i := 11) (v := ?_) (by simp only [gA, gB, gC]; rfl) (by kernel_rfl) (by kernel_rfl) (by kernel_rfl) (by exact fun _ _ _ h => h) (Or.inl ⟨by rfl, ?_⟩) (by assumption) ?_; rotate_left; (focus (intro w hSw; (try dsimp only at hSw); go_simp; try with_reducible rfl)); (try simp only [Act.put, sA, sB, sC])
          refine wpAnyH_ready (rs := [12]) (by kernel_rfl) (by simp) ?_
          refine AllReadyH.cons (by simp only [gA, gB, gC]; rfl) (fun K hK => ?_) AllReadyH.nil
          refine step_allocC (z := zS) rfl rfl (fun _ => rfl) ?_
          (try simp only [Act.put, sA, sB, sC])
          refine hK.out _ _ (hSA) ?_
          clear hHeld hK
          intro hHeld
          (try simp only [Act.put, sA, sB, sC])
          refine wpAnyH_ready (rs := [13]) (by kernel_rfl) (by simp) ?_
          refine AllReadyH.cons (by simp only [gA, gB, gC]; rfl) (fun K hK => ?_) AllReadyH.nil
          refine step_store_rowC rfl _ _ rfl w0.heap.size rfl (stCs (begK c 0) nilS) rfl hth1 hszK (st_one _ _ rfl) hW1 ?_
          (try simp only [Act.put, sA, sB, sC])
          refine hK.out _ _ (hS1) ?_
          clear hHeld hK
          intro hHeld
          (try simp only [Act.put, sA, sB, sC])
          refine wpAnyH_done (by kernel_rfl) ?_ _
          go_wp2_with fail
          go_meet
          exact ⟨w0.heap.size, rfl, Nat.lt_of_lt_of_le hr1 hSz, hs1, hS1⟩
        refine AllReadyH.cons (by simp only [gA, gB, gC]; rfl) (fun K hK => ?_) AllReadyH.nil
        refine step_allocC (z := zS) rfl rfl (fun _ => rfl) ?_
        (try simp only [Act.put, sA, sB, sC])
        refine hK.out _ _ (hSA) ?_
        clear hHeld hK
        intro hHeld
        (try simp only [Act.put, sA, sB, sC])
        refine wpAnyH_ready (rs := [8]) (by kernel_rfl) (by simp) ?_
        refine AllReadyH.cons (by simp only [gA, gB, gC]; rfl) (fun K hK => ?_) AllReadyH.nil
        go_simp
        go_at_call 16
        refine (w16_any c.ring 8 (by decide) (by decide) _).mono ?_
        rintro e w' ⟨rfl, hw⟩
        rw [hw]
        clear hw w'
        refine hK.out _ _ (hSA) ?_
        clear hHeld hK
        intro hHeld
        (try simp only [Act.put, sA, sB, sC])
        refine wpAnyH_take (i := 11) (v := ?_) (by simp only [gA, gB, gC]; rfl) (by kernel_rfl) (by kernel_rfl) (by kernel_rfl) (by exact fun _ _ _ h => h) (Or.inl ⟨by rfl, ?_⟩) (by assumption) ?_; rotate_left; (focus (intro w hSw; (try dsimp only at hSw); go_simp; try with_reducible rfl)); (try simp only [Act.put, sA, sB, sC])
        refine wpAnyH_ready (rs := [13]) (by kernel_rfl) (by simp) ?_
        refine AllReadyH.cons (by simp only [gA, gB, gC]; rfl) (fun K hK => ?_) AllReadyH.nil
        refine step_store_rowC rfl _ _ rfl w0.heap.size rfl (stCs (begK c 0) nilS) rfl hth1 hszK (st_one _ _ rfl) hW1 ?_
        (try simp only [Act.put, sA, sB, sC])
        refine hK.out _ _ (hS1) ?_
        clear hHeld hK
        intro hHeld
        (try simp only [Act.put, sA, sB, sC])
        refine wpAnyH_done (by kernel_rfl) ?_ _
        go_wp2_with fail
        go_meet
        exact ⟨w0.heap.size, rfl, Nat.lt_of_lt_of_le hr1 hSz, hs1, hS1⟩
      refine AllReadyH.cons (by simp only [gA, gB, gC]; rfl) (fun K hK => ?_) AllReadyH.nil
      refine step_allocC (z := zS) rfl rfl (fun _ => rfl) ?_
      (try simp only [Act.put, sA, sB, sC])
      refine hK.out _ _ (hSA) ?_
      clear hHeld hK
      intro hHeld
      (try simp only [Act.put, sA, sB, sC])
      refine wpAnyH_ready (rs := [5]) (by kernel_rfl) (by simp) ?_
      refine AllReadyH.cons (by simp only [gA, gB, gC]; rfl) (fun K hK => ?_) AllReadyH.nil
      go_simp
      go_at_call 16
      refine (w16_any c.off 5 (by decide) (by decide) _).mono ?_
      rintro e w' ⟨rfl, hw⟩
      rw [hw]
      clear hw w'
      refine hK.out _ _ (hSA) ?_
      clear hHeld hK
      intro hHeld
      (try simp only [Act.put, sA, sB, sC])
      refine wpAnyH_ready (rs := [8]) (by kernel_rfl) (by simp) ?_
      refine AllReadyH.cons (by simp only [gA, gB, gC]; rfl) (fun K hK => ?_) AllReadyH.nil
      go_simp
      go_at_call 16
      refine (w16_any c.ring 8 (by decide) (by decide) _).mono ?_
      rintro e w' ⟨rfl, hw⟩
      rw [hw]
      clear hw w'
      refine hK.out _ _ (hSA) ?_
      clear hHeld hK
      intro hHeld
      (try simp only [Act.put, sA, sB, sC])
      refine wpAnyH_take (i := 11) (v := ?_) (by simp only [gA, gB, gC]; rfl) (by kernel_rfl) (by kernel_rfl) (by kernel_rfl) (by exact fun _ _ _ h => h) (Or.inl ⟨by rfl, ?_⟩) (by assumption) ?_; rotate_left; (focus (intro w hSw; (try dsimp only at hSw); go_simp; try with_reducible rfl)); (try simp only [Act.put, sA, sB, sC])
      refine wpAnyH_ready (rs := [13]) (by kernel_rfl) (by simp) ?_
      refine AllReadyH.cons (by simp only [gA, gB, gC]; rfl) (fun K hK => ?_) AllReadyH.nil
      refine step_store_rowC rfl _ _ rfl w0.heap.size rfl (stCs (begK c 0) nilS) rfl hth1 hszK (st_one _ _ rfl) hW1 ?_
      (try simp only [Act.put, sA, sB, sC])
      refine hK.out _ _ (hS1) ?_
      clear hHeld hK
      intro hHeld
      (try simp only [Act.put, sA, sB, sC])
      refine wpAnyH_done (by kernel_rfl) ?_ _
      go_wp2_with fail
      go_meet
      exact ⟨w0.heap.size, rfl, Nat.lt_of_lt_of_le hr1 hSz, hs1, hS1⟩
    refine AllReadyH.cons (by simp only [gA, gB, gC]; rfl) (fun K hK => ?_) AllReadyH.nil
    refine step_allocC (z := zS) rfl rfl (fun _ => rfl) ?_
    (try simp only [Act.put, sA, sB, sC])
    refine hK.out _ _ (hSA) ?_
    clear hHeld hK
    intro hHeld
    (try simp only [Act.put, sA, sB, sC])
    refine wpAnyH_ready (rs := [2]) (by kernel_rfl) (by simp) ?_
    refine AllReadyH.cons (by simp only [gA, gB, gC]; rfl) (fun K hK => ?_) AllReadyH.nil
    go_simp
    go_at_call 16
    refine (w16_any c.seg 5 (by decide) (by decide) _).mono ?_
    rintro e w' ⟨rfl, hw⟩
    rw [hw]
    clear hw w'
    refine hK.out _ _ (hSA) ?_
    clear hHeld hK
    intro hHeld
    (try simp only [Act.put, sA, sB, sC])
    refine wpAnyH_ready (rs := [5]) (by kernel_rfl) (by simp) ?_
    refine AllReadyH.cons (by simp only [gA, gB, gC]; rfl) (fun K hK => ?_) AllReadyH.nil
    go_simp
    go_at_call 16
    refine (w16_any c.off 5 (by decide) (by decide) _).mono ?_
    rintro e w' ⟨rfl, hw⟩
    rw [hw]
    clear hw w'
    refine hK.out _ _ (hSA) ?_
    clear hHeld hK
    intro hHeld
    (try simp only [Act.put, sA, sB, sC])
    refine wpAnyH_ready (rs := [8]) (by kernel_rfl) (by simp) ?_
    refine AllReadyH.cons (by simp only [gA, gB, gC]; rfl) (fun K hK => ?_) AllReadyH.nil
    go_simp
    go_at_call 16
    refine (w16_any c.ring 8 (by decide) (by decide) _).mono ?_
    rintro e w' ⟨rfl, hw⟩
    rw [hw]
    clear hw w'
    refine hK.out _ _ (hSA) ?_
    clear hHeld hK
    intro hHeld
    (try simp only [Act.put, sA, sB, sC])
    refine wpAnyH_take (i := 11) (v := ?_) (by simp only [gA, gB, gC]; rfl) (by kernel_rfl) (by kernel_rfl) (by kernel_rfl) (by exact fun _ _ _ h => h) (Or.inl ⟨by rfl, ?_⟩) (by assumption) ?_; rotate_left; (focus (intro w hSw; (try dsimp only at hSw); go_simp; try with_reducible rfl)); (try simp only [Act.put, sA, sB, sC])
    refine wpAnyH_ready (rs := [13]) (by kernel_rfl) (by simp) ?_
    refine AllReadyH.cons (by simp only [gA, gB, gC]; rfl) (fun K hK => ?_) AllReadyH.nil
    refine step_store_rowC rfl _ _ rfl w0.heap.size rfl (stCs (begK c 0) nilS) rfl hth1 hszK (st_one _ _ rfl) hW1 ?_
    (try simp only [Act.put, sA, sB, sC])
    refine hK.out _ _ (hS1) ?_
    clear hHeld hK
    intro hHeld
    (try simp only [Act.put, sA, sB, sC])
    refine wpAnyH_done (by kernel_rfl) ?_ _
    go_wp2_with fail
    go_meet
    exact ⟨w0.heap.size, rfl, Nat.lt_of_lt_of_le hr1 hSz, hs1, hS1⟩
  case rest =>
  obtain ⟨bt, rfl, hgt, hs1, hSc⟩ := hcut
  have hxc := stab_blk _ _ _ _ hx1 hSc
  have hrc := hr0.keep hSc
  have hBc := Below.then hB1 hSc
  clear hx1 hr0 hB1 hSc x0 x1 x2 x3 hS0 hr1 hlt
  have hle : w.heap.size ≤ bt := by omega
  have hlt : w.heap.size < bt := by omega
  go_wp2_with fail
  go_loopw [4] (fun t4 wr => ∃ k : Nat, k ≤ 4 ∧ t4 = .int .i64 (k : Int) ∧ BlkL w.heap.size X wr ∧ StAt (w.heap.size + 1) zeroC nilS wr ∧ StAt bt (begK c k) nilS wr ∧ Below w.heap.size w wr) (fun t4 _ => 4 - (Go.RowKit.intOf t4).toNat)
  case atStart => exact ⟨0, by omega, rfl, hxc, hrc, hs1, hBc⟩
  case round =>
  clear hxc hrc hs1 hBc
  obtain ⟨k, hk, rfl, hx, hr, hs, hB⟩ := hrel
  by_cases hk4 : k < 4
  · have i1 : (k : Int) < 4 := by omega
    have i2 : ¬ (k : Int) < 0 := by omega
    have hstep := begK_step h4 hk4
    have hidx := fun j (hj : j < 3) => (bg_at (.slice a1 n c1) h4 (show 4 + k * 3 + j < 17 by omega)).trans (st_ptr (v := .slice a1 n c1) h4 hk4 hj)
    rw [hXc.out] at hidx
    obtain ⟨p, hpp⟩ : ∃ p, c.ps.getD k ⟨0, 0, 0⟩ = p := ⟨_, rfl⟩
    rw [hpp] at hidx hstep
    have y0 : wr.cell? ⟨w.heap.size, 4 + k * 3, none⟩ = some (.int .i64 p.s) := (hx.1 _ _ ((hidx 0 (by decide)).trans rfl)).1
    have y1 : wr.cell? ⟨w.heap.size, 4 + k * 3 + 1, none⟩ = some (.int .i64 p.f) := (hx.1 _ _ ((hidx 1 (by decide)).trans rfl)).1
    have y2 : wr.cell? ⟨w.heap.size, 4 + k * 3 + 2, none⟩ = some (.int .i64 p.r) := (hx.1 _ _ ((hidx 2 (by decide)).trans rfl)).1
    clear hidx hpp
    replace hstep : Aside (setM (stCs (begK c k) nilS) (4 + k * 3) (ptr3 (bgP p)) = stCs (begK c (k + 1)) nilS) := hstep
    go_upto_region 5 with fail
    obtain ⟨Z, hZ⟩ : ∃ Z, wr = Z := ⟨_, rfl⟩
    rw [hZ] at y0 y1 y2 hx hr hs hB ⊢
    clear hZ
    have hdr := (Below.refl Z.heap.size Z).drew
    have hst0 := hs.keep hdr
    have hS0 : Below bt Z Z.drew := hdr.mono (Nat.le_of_lt hs.blk.2)
    have hstep := hstep.out
    refine wp_region_held_drew (S := (fun W => Below bt Z W)) (by kernel_rfl) (by exact hS0) ?_
    intro hHeld
    generalize Z.drew = w0 at *
    obtain ⟨W2, hW2, hth2, hs2, hk2, hf2⟩ := hst0.putPtr hk4 (bgP p) (begK_len h4 (k + 1)) hstep
    have hS2 := hk2 _ _ (Nat.le_refl _) hS0
    refine wpAnyH_take (i := 0) (v := ?_) (by simp only [gA, gB, gC]; rfl) (by kernel_rfl) (by kernel_rfl) (by kernel_rfl) (by exact fun _ _ _ h => h) (Or.inl ⟨by rfl, ?_⟩) (by assumption) ?_; rotate_left; (focus (intro w hSw; (try dsimp only at hSw); go_simp; try with_reducible rfl)); (try simp only [Act.put, sA, sB, sC])
    refine wpAnyH_take (i := 1) (v := ?_) (by simp only [gA, gB, gC]; rfl) (by kernel_rfl) (by kernel_rfl) (by kernel_rfl) (by exact fun _ _ _ h => h) (Or.inl ⟨by rfl, ?_⟩) (by assumption) ?_; rotate_left; (focus (intro w hSw; (try dsimp only at hSw); go_simp; try with_reducible rfl)); (try simp only [Act.put, sA, sB, sC])
    refine wpAnyH_take (i := 2) (v := ?_) (by simp only [gA, gB, gC]; rfl) (by kernel_rfl) (by kernel_rfl) (by kernel_rfl) (by exact fun _ _ _ h => h) (Or.inl ⟨by rfl, ?_⟩) (by assumption) ?_; rotate_left; (focus (intro w hSw; (try dsimp only at hSw); go_simp; try with_reducible rfl)); (try simp only [Act.put, sA, sB, sC])
    refine wpAnyH_take (i := 3) (v := ?_) (by simp only [gA, gB, gC]; rfl) (by kernel_rfl) (by kernel_rfl) (by kernel_rfl) (by exact fun _ _ _ h => h) (Or.inl ⟨by rfl, ?_⟩) (by assumption) ?_; rotate_left; (focus (intro w hSw; (try dsimp only at hSw); go_simp; try with_reducible rfl)); (try simp only [Act.put, sA, sB, sC])
    refine wpAnyH_take (i := 4) (v := ?_) (by simp only [gA, gB, gC]; rfl) (by kernel_rfl) (by kernel_rfl) (by kernel_rfl) (by exact fun _ _ _ h => h) (Or.inl ⟨by rfl, ?_⟩) (by assumption) ?_; rotate_left; (focus (intro w hSw; (try dsimp only at hSw); go_simp; try with_reducible rfl)); (try simp only [Act.put, sA, sB, sC])
    refine wpAnyH_take (i := 5) (v := _) (by simp only [gA, gB, gC]; rfl) (by kernel_rfl) (by kernel_rfl) (by kernel_rfl) (by exact fun _ _ _ h => h) (yields_cellI (by rfl) _ rfl ⟨w.heap.size, 4 + k * 3, none⟩ rfl (.int .i64 p.s) (fun _ q => (q.cell (p := ⟨w.heap.size, 4 + k * 3, none⟩) hlt).trans y0) intI_load) (by assumption) ?_; (try simp only [Act.put, sA, sB, sC])
    refine wpAnyH_take (i := 7) (v := ?_) (by simp only [gA, gB, gC]; rfl) (by kernel_rfl) (by kernel_rfl) (by kernel_rfl) (by exact fun _ _ _ h => h) (Or.inl ⟨by rfl, ?_⟩) (by assumption) ?_; rotate_left; (focus (intro w hSw; (try dsimp only at hSw); go_simp; try with_reducible rfl)); (try simp only [Act.put, sA, sB, sC])
    refine wpAnyH_take (i := 8) (v := ?_) (by simp only [gA, gB, gC]; rfl) (by kernel_rfl) (by kernel_rfl) (by kernel_rfl) (by exact fun _ _ _ h => h) (Or.inl ⟨by rfl, ?_⟩) (by assumption) ?_; rotate_left; (focus (intro w hSw; (try dsimp only at hSw); go_simp; try with_reducible rfl)); (try simp only [Act.put, sA, sB, sC])
    refine wpAnyH_take (i := 9) (v := ?_) (by simp only [gA, gB, gC]; rfl) (by kernel_rfl) (by kernel_rfl) (by kernel_rfl) (by exact fun _ _ _ h => h) (Or.inl ⟨by rfl, ?_⟩) (by assumption) ?_; rotate_left; (focus (intro w hSw; (try dsimp only at hSw); go_simp; try with_reducible rfl)); (try simp only [Act.put, sA, sB, sC])
    refine wpAnyH_take (i := 10) (v := ?_) (by simp only [gA, gB, gC]; rfl) (by kernel_rfl) (by kernel_rfl) (by kernel_rfl) (by exact fun _ _ _ h => h) (Or.inl ⟨by rfl, ?_⟩) (by assumption) ?_; rotate_left; (focus (intro w hSw; (try dsimp only at hSw); go_simp; try with_reducible rfl)); (try simp only [Act.put, sA, sB, sC])
    refine wpAnyH_take (i := 11) (v := _) (by simp only [gA, gB, gC]; rfl) (by kernel_rfl) (by kernel_rfl) (by kernel_rfl) (by exact fun _ _ _ h => h) (yields_cellI (by rfl) _ rfl ⟨w.heap.size, 4 + k * 3 + 1, none⟩ rfl (.int .i64 p.f) (fun _ q => (q.cell (p := ⟨w.heap.size, 4 + k * 3 + 1, none⟩) hlt).trans y1) intI_load) (by assumption) ?_; (try simp only [Act.put, sA, sB, sC])
    refine wpAnyH_take (i := 13) (v := ?_) (by simp only [gA, gB, gC]; rfl) (by kernel_rfl) (by kernel_rfl) (by kernel_rfl) (by exact fun _ _ _ h => h) (Or.inl ⟨by rfl, ?_⟩) (by assumption) ?_; rotate_left; (focus (intro w hSw; (try dsimp only at hSw); go_simp; try with_reducible rfl)); (try simp only [Act.put, sA, sB, sC])
    refine wpAnyH_take (i := 14) (v := ?_) (by simp only [gA, gB, gC]; rfl) (by kernel_rfl) (by kernel_rfl) (by kernel_rfl) (by exact fun _ _ _ h => h) (Or.inl ⟨by rfl, ?_⟩) (by assumption) ?_; rotate_left; (focus (intro w hSw; (try dsimp only at hSw); go_simp; try with_reducible rfl)); (try simp only [Act.put, sA, sB, sC])
    refine wpAnyH_take (i := 15) (v := ?_) (by simp only [gA, gB, gC]; rfl) (by kernel_rfl) (by kernel_rfl) (by kernel_rfl) (by exact fun _ _ _ h => h) (Or.inl ⟨by rfl, ?_⟩) (by assumption) ?_; rotate_left; (focus (intro w hSw; (try dsimp only at hSw); go_simp; try with_reducible rfl)); (try simp only [Act.put, sA, sB, sC])
    refine wpAnyH_take (i := 16) (v := ?_) (by simp only [gA, gB, gC]; rfl) (by kernel_rfl) (by kernel_rfl) (by kernel_rfl) (by exact fun _ _ _ h => h) (Or.inl ⟨by rfl, ?_⟩) (by assumption) ?_; rotate_left; (focus (intro w hSw; (try dsimp only at hSw); go_simp; try with_reducible rfl)); (try simp only [Act.put, sA, sB, sC])
    refine wpAnyH_take (i := 17) (v := _) (by simp only [gA, gB, gC]; rfl) (by kernel_rfl) (by kernel_rfl) (by kernel_rfl) (by exact fun _ _ _ h => h) (yields_cellI (by rfl) _ rfl ⟨w.heap.size, 4 + k * 3 + 2, none⟩ rfl (.int .i64 p.r) (fun _ q => (q.cell (p := ⟨w.heap.size, 4 + k * 3 + 2, none⟩) hlt).trans y2) intI_load) (by assumption) ?_; (try simp only [Act.put, sA, sB, sC])
    refine wpAnyH_take (i := 20) (v := ?_) (by simp only [gA, gB, gC]; rfl) (by kernel_rfl) (by kernel_rfl) (by kernel_rfl) (by exact fun _ _ _ h => h) (Or.inl ⟨by rfl, ?_⟩) (by assumption) ?_; rotate_left; (focus (intro w hSw; (try dsimp only at hSw); go_simp; try with_reducible rfl)); (try simp only [Act.put, sA, sB, sC])
    refine wpAnyH_ready (rs := [6]) (by kernel_rfl) (by simp) ?_
    refine AllReadyH.cons (by simp only [gA, gB, gC]; rfl) (fun K hK => ?_) AllReadyH.nil
    go_simp
    go_at_call 16
    refine (w16_any p.s 5 (by decide) (by decide) _).mono ?_
    rintro e w' ⟨rfl, hw⟩
    rw [hw]
    clear hw w'
    refine hK.out _ _ (hS0) ?_
    clear hHeld hK
    intro hHeld
    (try simp only [Act.put, sA, sB, sC])
    refine wpAnyH_ready (rs := [12]) (by kernel_rfl) (by simp) ?_
    refine AllReadyH.cons (by simp only [gA, gB, gC]; rfl) (fun K hK => ?_) AllReadyH.nil
    go_simp
    go_at_call 16
    refine (w16_any p.f 6 (by decide) (by decide) _).mono ?_
    rintro e w' ⟨rfl, hw⟩
    rw [hw]
    clear hw w'
    refine hK.out _ _ (hS0) ?_
    clear hHeld hK
    intro hHeld
    (try simp only [Act.put, sA, sB, sC])
    refine wpAnyH_ready (rs := [18]) (by kernel_rfl) (by simp) ?_
    refine AllReadyH.cons (by simp only [gA, gB, gC]; rfl) (fun K hK => ?_) AllReadyH.nil
    go_simp
    go_at_call 16
    refine (w16_any p.r 8 (by decide) (by decide) _).mono ?_
    rintro e w' ⟨rfl, hw⟩
    rw [hw]
    clear hw w'
    refine hK.out _ _ (hS0) ?_
    clear hHeld hK
    intro hHeld
    (try simp only [Act.put, sA, sB, sC])
    refine wpAnyH_take (i := 19) (v := ?_) (by simp only [gA, gB, gC]; rfl) (by kernel_rfl) (by kernel_rfl) (by kernel_rfl) (by exact fun _ _ _ h => h) (Or.inl ⟨by rfl, ?_⟩) (by assumption) ?_; rotate_left; (focus (intro w hSw; (try dsimp only at hSw); go_simp; try with_reducible rfl)); (try simp only [Act.put, sA, sB, sC])
    refine wpAnyH_take (i := 21) (v := ?_) (by simp only [gA, gB, gC]; rfl) (by kernel_rfl) (by kernel_rfl) (by kernel_rfl) (by exact fun _ _ _ h => h) (Or.inl ⟨by rfl, ?_⟩) (by assumption) ?_; rotate_left; (focus (intro w hSw; (try dsimp only at hSw); go_simp; try with_reducible rfl)); (try simp only [Act.put, sA, sB, sC])
    refine wpAnyH_ready (rs := [22]) (by kernel_rfl) (by simp) ?_
    refine AllReadyH.cons (by simp only [gA, gB, gC]; rfl) (fun K hK => ?_) AllReadyH.nil
    refine step_store_part rfl _ _ rfl bt (4 + k * 3) rfl (ptr3 (bgP p)) rfl hth2 hszP (ptr3J_one _) hW2 ?_
    (try simp only [Act.put, sA, sB, sC])
    refine hK.out _ _ (hS2) ?_
    clear hHeld hK
    intro hHeld
    (try simp only [Act.put, sA, sB, sC])
    refine wpAnyH_done (by kernel_rfl) ?_ _
    have hx2 := hx.1.same (hS2.block _ hlt)
    have hr2 := hr.keepB hS2 hgt
    have hB2 := hB.trans (hS2.mono hle)
    go_wp2_with fail
    exact ⟨⟨k + 1, by omega, by simp, ⟨hx2, Nat.lt_of_lt_of_le hx.2 hS2.size⟩, hr2, hs2, hB2⟩, by simp [Go.RowKit.intOf]; omega⟩
  · obtain rfl : k = 4 := by omega
    have i1 : ¬ (4 : Int) < 4 := by omega
    go_upto_region 6 with fail
    obtain ⟨V, hV⟩ : ∃ V, wr = V := ⟨_, rfl⟩
    rw [hV] at hx hr hs hB ⊢
    clear hV
    have hx5 : X[16]? = some (.slice a1 n c1) := by rw [← hXc.out, bg_at _ h4 (by decide), st_stk h4]
    go_wp2_with fail
    go_loopw [5] (fun t5 wr => ∃ (k : Nat) (v : Value), k ≤ n ∧ k ≤ 8 ∧ t5 = .int .i64 (k : Int) ∧ BlkL w.heap.size X wr ∧ StAt (w.heap.size + 1) zeroC nilS wr ∧ StAt bt (begK c 4) v wr ∧ OwnR 84 3 frc wr (bt + 1) v ((c.st.take k).map bgF) ∧ Below w.heap.size w wr) (fun t5 _ => 8 - (Go.RowKit.intOf t5).toNat)
    case atStart => exact ⟨0, _, by omega, by omega, rfl, hx, hr, hs, OwnR.nil _ _ _ _ _, hB⟩
    case round =>
    clear hx hr hs hB
    obtain ⟨k, v, hkn, hk8, rfl, hx, hr, hst, ho, hB⟩ := hrel
    have x5 : wr.cell? ⟨w.heap.size, 16, none⟩ = some (.slice a1 n c1) := (hx.1 16 _ hx5).1
    by_cases hgo : k < n ∧ k < 8
    · obtain ⟨f, hf⟩ : ∃ f, c.st[k]? = some f := ⟨_, List.getElem?_eq_getElem (by rw [hnn.out]; exact hgo.1)⟩
      have hstep : (c.st.take (k + 1)).map bgF = (c.st.take k).map bgF ++ [bgF f] := by rw [List.take_add_one, hf, List.map_append]; rfl
      have r1' := r1.below frc_len hB
      obtain ⟨z1, hz1, hzc⟩ := r1 k f hf
      have hzb : (z1.add (k * 3)).block < bt := by
        have h0 := hzc 0 (by decide)
        have := World.block_lt_of_cell? _ _ (h0.trans rfl)
        rw [Nat.add_zero] at this
        omega
      subst hz1
      have g1 := r1'.at frc_len hf
      have j1 : (k : Int) < (n : Int) := by omega
      have j2 : (k : Int) < 8 := by omega
      replace hstep : Aside ((c.st.take (k + 1)).map bgF = (c.st.take k).map bgF ++ [bgF f]) := hstep
      have hnl2 := hnn.out
      have ha0 : wr.cell? (z1.add (k * 3)) = some (.int .i64 f.s) := g1 0 _ rfl
      have ha1 : wr.cell? ⟨(z1.add (k * 3)).block, (z1.add (k * 3)).off + 1, none⟩ = some (.int .i64 f.f) := g1 1 _ rfl
      have ha2 : wr.cell? ⟨(z1.add (k * 3)).block, (z1.add (k * 3)).off + 2, none⟩ = some (.int .i64 f.r) := g1 2 _ rfl
      clear hf r1' hzc g1
      go_upto_region 9 with fail
      obtain ⟨Z, hZ⟩ : ∃ Z, wr = Z := ⟨_, rfl⟩
      rw [hZ] at x5 ha0 ha1 ha2 hx hr hst ho hB ⊢
      clear hZ
      have hdr := (Below.refl Z.heap.size Z).drew
      have ho0 := ho.below hdr
      have hst0 := hst.keep hdr
      have hS0 : Below bt Z Z.drew := hdr.mono (Nat.le_of_lt hst.blk.2)
      have hstep := hstep.out
      refine wp_region_held_drew (S := (fun W => Below bt Z W)) (by kernel_rfl) (by exact hS0) ?_
      intro hHeld
      generalize Z.drew = w0 at *
      obtain ⟨v2, W2, hap, ho2, hg2⟩ := OwnR.push fr_okC ho0 (show bt + 1 ≤ w0.heap.size from hst0.blk.2) (bgF f) (frc (bgF f)).toArray rfl 84 (by rw [List.length_map, List.length_take]; omega)
      have hb2 := ho0.grew_below (show bt + 1 ≤ w0.heap.size from hst0.blk.2) hg2
      have hbA := alloc_below w0 (.cells (frc (bgF f)).toArray 84)
      have hstA := hst0.keep hbA
      have hSA := hS0.trans (hbA.mono (Nat.le_of_lt hst0.blk.2))
      have hS2 := hS0.trans (hb2.mono (Nat.le_succ _))
      have hst2 := hst0.keepB hb2 (Nat.lt_succ_self _)
      obtain ⟨a2, cap2, hv2, -, -, -⟩ := ho2.slice frc_len
      refine wpAnyH_take (i := 0) (v := ?_) (by simp only [gA, gB, gC]; rfl) (by kernel_rfl) (by kernel_rfl) (by kernel_rfl) (by exact fun _ _ _ h => h) (Or.inl ⟨by rfl, ?_⟩) (by assumption) ?_; rotate_left; (focus (intro w hSw; (try dsimp only at hSw); go_simp; try with_reducible rfl)); (try simp only [Act.put, sA, sB, sC])
      refine wpAnyH_take (i := 2) (v := ?_) (by simp only [gA, gB, gC]; rfl) (by kernel_rfl) (by kernel_rfl) (by kernel_rfl) (by exact fun _ _ _ h => h) (Or.inl ⟨by rfl, ?_⟩) (by assumption) ?_; rotate_left; (focus (intro w hSw; (try dsimp only at hSw); go_simp; try with_reducible rfl)); (try simp only [Act.put, sA, sB, sC])
      refine wpAnyH_take (i := 3) (v := _) (by simp only [gA, gB, gC]; rfl) (by kernel_rfl) (by kernel_rfl) (by kernel_rfl) (by exact fun _ _ _ h => h) (yields_cellI (by rfl) _ rfl ⟨w.heap.size, 16, none⟩ rfl (.slice (some z1) n c1) (fun _ q => (q.cell (p := ⟨w.heap.size, 16, none⟩) hlt).trans x5) crs_load) (by assumption) ?_; (try simp only [Act.put, sA, sB, sC])
      refine wpAnyH_take (i := 4) (v := ?_) (by simp only [gA, gB, gC]; rfl) (by kernel_rfl) (by kernel_rfl) (by kernel_rfl) (by exact fun _ _ _ h => h) (Or.inl ⟨by rfl, ?_⟩) (by assumption) ?_; rotate_left; (focus (intro w hSw; (try dsimp only at hSw); go_simp; try with_reducible rfl)); (try simp only [Act.put, sA, sB, sC])
      refine wpAnyH_take (i := 5) (v := ?_) (by simp only [gA, gB, gC]; rfl) (by kernel_rfl) (by kernel_rfl) (by kernel_rfl) (by exact fun _ _ _ h => h) (Or.inl ⟨by rfl, ?_⟩) (by assumption) ?_; rotate_left; (focus (intro w hSw; (try dsimp only at hSw); go_simp; try with_reducible rfl)); (try simp only [Act.put, sA, sB, sC])
      refine wpAnyH_take (i := 6) (v := ?_) (by simp only [gA, gB, gC]; rfl) (by kernel_rfl) (by kernel_rfl) (by kernel_rfl) (by exact fun _ _ _ h => h) (Or.inl ⟨by rfl, ?_⟩) (by assumption) ?_; rotate_left; (focus (intro w hSw; (try dsimp only at hSw); go_simp; try with_reducible rfl)); (try simp only [Act.put, sA, sB, sC])
      refine wpAnyH_take (i := 7) (v := _) (by simp only [gA, gB, gC]; rfl) (by kernel_rfl) (by kernel_rfl) (by kernel_rfl) (by exact fun _ _ _ h => h) (yields_cellI (by rfl) _ rfl (z1.add (k * 3)) rfl (.int .i64 f.s) (fun _ q => (q.cell (p := (z1.add (k * 3))) hzb).trans ha0) intI_load) (by assumption) ?_; (try simp only [Act.put, sA, sB, sC])
      refine wpAnyH_take (i := 9) (v := ?_) (by simp only [gA, gB, gC]; rfl) (by kernel_rfl) (by kernel_rfl) (by kernel_rfl) (by exact fun _ _ _ h => h) (Or.inl ⟨by rfl, ?_⟩) (by assumption) ?_; rotate_left; (focus (intro w hSw; (try dsimp only at hSw); go_simp; try with_reducible rfl)); (try simp only [Act.put, sA, sB, sC])
      refine wpAnyH_take (i := 10) (v := _) (by simp only [gA, gB, gC]; rfl) (by kernel_rfl) (by kernel_rfl) (by kernel_rfl) (by exact fun _ _ _ h => h) (yields_cellI (by rfl) _ rfl ⟨w.heap.size, 16, none⟩ rfl (.slice (some z1) n c1) (fun _ q => (q.cell (p := ⟨w.heap.size, 16, none⟩) hlt).trans x5) crs_load) (by assumption) ?_; (try simp only [Act.put, sA, sB, sC])
      refine wpAnyH_take (i := 11) (v := ?_) (by simp only [gA, gB, gC]; rfl) (by kernel_rfl) (by kernel_rfl) (by kernel_rfl) (by exact fun _ _ _ h => h) (Or.inl ⟨by rfl, ?_⟩) (by assumption) ?_; rotate_left; (focus (intro w hSw; (try dsimp only at hSw); go_simp; try with_reducible rfl)); (try simp only [Act.put, sA, sB, sC])
      refine wpAnyH_take (i := 12) (v := ?_) (by simp only [gA, gB, gC]; rfl) (by kernel_rfl) (by kernel_rfl) (by kernel_rfl) (by exact fun _ _ _ h => h) (Or.inl ⟨by rfl, ?_⟩) (by assumption) ?_; rotate_left; (focus (intro w hSw; (try dsimp only at hSw); go_simp; try with_reducible rfl)); (try simp only [Act.put, sA, sB, sC])
      refine wpAnyH_take (i := 13) (v := ?_) (by simp only [gA, gB, gC]; rfl) (by kernel_rfl) (by kernel_rfl) (by kernel_rfl) (by exact fun _ _ _ h => h) (Or.inl ⟨by rfl, ?_⟩) (by assumption) ?_; rotate_left; (focus (intro w hSw; (try dsimp only at hSw); go_simp; try with_reducible rfl)); (try simp only [Act.put, sA, sB, sC])
      refine wpAnyH_take (i := 14) (v := _) (by simp only [gA, gB, gC]; rfl) (by kernel_rfl) (by kernel_rfl) (by kernel_rfl) (by exact fun _ _ _ h => h) (yields_cellI (by rfl) _ rfl ⟨(z1.add (k * 3)).block, (z1.add (k * 3)).off + 1, none⟩ rfl (.int .i64 f.f) (fun _ q => (q.cell (p := ⟨(z1.add (k * 3)).block, (z1.add (k * 3)).off + 1, none⟩) hzb).trans ha1) intI_load) (by assumption) ?_; (try simp only [Act.put, sA, sB, sC])
      refine wpAnyH_take (i := 16) (v := ?_) (by simp only [gA, gB, gC]; rfl) (by kernel_rfl) (by kernel_rfl) (by kernel_rfl) (by exact fun _ _ _ h => h) (Or.inl ⟨by rfl, ?_⟩) (by assumption) ?_; rotate_left; (focus (intro w hSw; (try dsimp only at hSw); go_simp; try with_reducible rfl)); (try simp only [Act.put, sA, sB, sC])
      refine wpAnyH_take (i := 17) (v := _) (by simp only [gA, gB, gC]; rfl) (by kernel_rfl) (by kernel_rfl) (by kernel_rfl) (by exact fun _ _ _ h => h) (yields_cellI (by rfl) _ rfl ⟨w.heap.size, 16, none⟩ rfl (.slice (some z1) n c1) (fun _ q => (q.cell (p := ⟨w.heap.size, 16, none⟩) hlt).trans x5) crs_load) (by assumption) ?_; (try simp only [Act.put, sA, sB, sC])
      refine wpAnyH_take (i := 18) (v := ?_) (by simp only [gA, gB, gC]; rfl) (by kernel_rfl) (by kernel_rfl) (by kernel_rfl) (by exact fun _ _ _ h => h) (Or.inl ⟨by rfl, ?_⟩) (by assumption) ?_; rotate_left; (focus (intro w hSw; (try dsimp only at hSw); go_simp; try with_reducible rfl)); (try simp only [Act.put, sA, sB, sC])
      refine wpAnyH_take (i := 19) (v := ?_) (by simp only [gA, gB, gC]; rfl) (by kernel_rfl) (by kernel_rfl) (by kernel_rfl) (by exact fun _ _ _ h => h) (Or.inl ⟨by rfl, ?_⟩) (by assumption) ?_; rotate_left; (focus (intro w hSw; (try dsimp only at hSw); go_simp; try with_reducible rfl)); (try simp only [Act.put, sA, sB, sC])
      refine wpAnyH_take (i := 20) (v := ?_) (by simp only [gA, gB, gC]; rfl) (by kernel_rfl) (by kernel_rfl) (by kernel_rfl) (by exact fun _ _ _ h => h) (Or.inl ⟨by rfl, ?_⟩) (by assumption) ?_; rotate_left; (focus (intro w hSw; (try dsimp only at hSw); go_simp; try with_reducible rfl)); (try simp only [Act.put, sA, sB, sC])
      refine wpAnyH_take (i := 21) (v := _) (by simp only [gA, gB, gC]; rfl) (by kernel_rfl) (by kernel_rfl) (by kernel_rfl) (by exact fun _ _ _ h => h) (yields_cellI (by rfl) _ rfl ⟨(z1.add (k * 3)).block, (z1.add (k * 3)).off + 2, none⟩ rfl (.int .i64 f.r) (fun _ q => (q.cell (p := ⟨(z1.add (k * 3)).block, (z1.add (k * 3)).off + 2, none⟩) hzb).trans ha2) intI_load) (by assumption) ?_; (try simp only [Act.put, sA, sB, sC])
      refine wpAnyH_ready (rs := [1, 8]) (by kernel_rfl) (by simp) ?_
      refine AllReadyH.cons (by simp only [gA, gB, gC]; rfl) (fun K hK => ?_) ?_
      · skip
        refine step_oneJ rfl _ rfl ⟨bt, 16, none⟩ rfl v hst0.stk crs_load ?_
        (try simp only [Act.put, sA, sB, sC])
        refine hK.out _ _ (hS0) ?_
        clear hHeld hK
        intro hHeld
        (try simp only [Act.put, sA, sB, sC])
        refine wpAnyH_ready (rs := [8]) (by kernel_rfl) (by simp) ?_
        refine AllReadyH.cons (by simp only [gA, gB, gC]; rfl) (fun K hK => ?_) AllReadyH.nil
        go_simp
        go_at_call 16
        refine (w16_any f.s 5 (by decide) (by decide) _).mono ?_
        rintro e w' ⟨rfl, hw⟩
        rw [hw]
        clear hw w'
        refine hK.out _ _ (hS0) ?_
        clear hHeld hK
        intro hHeld
        (try simp only [Act.put, sA, sB, sC])
        refine wpAnyH_ready (rs := [15]) (by kernel_rfl) (by simp) ?_
        refine AllReadyH.cons (by simp only [gA, gB, gC]; rfl) (fun K hK => ?_) AllReadyH.nil
        go_simp
        go_at_call 16
        refine (w16_any f.f 6 (by decide) (by decide) _).mono ?_
        rintro e w' ⟨rfl, hw⟩
        rw [hw]
        clear hw w'
        refine hK.out _ _ (hS0) ?_
        clear hHeld hK
        intro hHeld
        (try simp only [Act.put, sA, sB, sC])
        refine wpAnyH_ready (rs := [22]) (by kernel_rfl) (by simp) ?_
        refine AllReadyH.cons (by simp only [gA, gB, gC]; rfl) (fun K hK => ?_) AllReadyH.nil
        go_simp
        go_at_call 16
        refine (w16_any f.r 8 (by decide) (by decide) _).mono ?_
        rintro e w' ⟨rfl, hw⟩
        rw [hw]
        clear hw w'
        refine hK.out _ _ (hS0) ?_
        clear hHeld hK
        intro hHeld
        (try simp only [Act.put, sA, sB, sC])
        refine wpAnyH_take (i := 23) (v := ?_) (by simp only [gA, gB, gC]; rfl) (by kernel_rfl) (by kernel_rfl) (by kernel_rfl) (by exact fun _ _ _ h => h) (Or.inl ⟨by rfl, ?_⟩) (by assumption) ?_; rotate_left; (focus (intro w hSw; (try dsimp only at hSw); go_simp; try with_reducible rfl)); (try simp only [Act.put, sA, sB, sC])
        refine wpAnyH_ready (rs := [24]) (by kernel_rfl) (by simp) ?_
        refine AllReadyH.cons (by simp only [gA, gB, gC]; rfl) (fun K hK => ?_) AllReadyH.nil
        refine step_build1 fr_okC (by decide) rfl _ rfl (frc (bgF f)) rfl rfl ?_
        (try simp only [Act.put, sA, sB, sC])
        refine hK.out _ _ (hSA) ?_
        clear hHeld hK
        intro hHeld
        (try simp only [Act.put, sA, sB, sC])
        refine wpAnyH_ready (rs := [25]) (by kernel_rfl) (by simp) ?_
        refine AllReadyH.cons (by simp only [gA, gB, gC]; rfl) (fun K hK => ?_) AllReadyH.nil
        refine step_append rfl _ _ rfl rfl rfl rfl hap ?_
        (try simp only [Act.put, sA, sB, sC])
        refine hK.out _ _ (hS2) ?_
        clear hHeld hK
        intro hHeld
        clear hap
        (try simp only [Act.put, sA, sB, sC])
        refine wpAnyH_take (i := 26) (v := ?_) (by simp only [gA, gB, gC]; rfl) (by kernel_rfl) (by kernel_rfl) (by kernel_rfl) (by exact fun _ _ _ h => h) (Or.inl ⟨by rfl, ?_⟩) (by assumption) ?_; rotate_left; (focus (intro w hSw; (try dsimp only at hSw); go_simp; try with_reducible rfl)); (try simp only [Act.put, sA, sB, sC])
        refine wpAnyH_ready (rs := [27]) (by kernel_rfl) (by simp) ?_
        refine AllReadyH.cons (by simp only [gA, gB, gC]; rfl) (fun K hK => ?_) AllReadyH.nil
        have hfz := (hst2.blk.1 16 _ (st_stk hst2.ps)).2
        have hst3 := hst2.setStk v2
        have ho3 := ho2.keep (w' := W2.setCell ⟨bt, 16, none⟩ v2) (fun q hq => heap_setCell_other _ ⟨bt, 16, none⟩ q _ (by have := (ho2.lt hq).1; show q ≠ bt; omega))
        rw [← hstep] at ho3
        have hS3 := hS2.setCell (p := ⟨bt, 16, none⟩) (Nat.le_refl _) v2
        have hfx : BlkL w.heap.size X (W2.setCell ⟨bt, 16, none⟩ v2) := ⟨hx.1.same (hS3.block _ hlt), Nat.lt_of_lt_of_le hx.2 hS3.size⟩
        have hfr := hr.keepB hS3 hgt
        have hB3 := hB.trans (hS3.mono hle)
        refine step_storeK rfl _ _ rfl ⟨bt, 16, none⟩ rfl v2 rfl (crsB_store _ _ _ _ hv2 hst2.stk hfz) ?_
        (try simp only [Act.put, sA, sB, sC])
        refine hK.out _ _ (hS3) ?_
        clear hHeld hK
        intro hHeld
        (try simp only [Act.put, sA, sB, sC])
        refine wpAnyH_done (by kernel_rfl) ?_ _
        clear hv2
        go_wp2_with fail
        exact ⟨⟨k + 1, v2, by omega, by omega, by simp, hfx, hfr, hst3, ho3, hB3⟩, by simp [Go.RowKit.intOf]; omega⟩
      refine AllReadyH.cons (by simp only [gA, gB, gC]; rfl) (fun K hK => ?_) AllReadyH.nil
      go_simp
      go_at_call 16
      refine (w16_any f.s 5 (by decide) (by decide) _).mono ?_
      rintro e w' ⟨rfl, hw⟩
      rw [hw]
      clear hw w'
      refine hK.out _ _ (hS0) ?_
      clear hHeld hK
      intro hHeld
      (try simp only [Act.put, sA, sB, sC])
      refine wpAnyH_ready (rs := [1, 15]) (by kernel_rfl) (by simp) ?_
      refine AllReadyH.cons (by simp only [gA, gB, gC]; rfl) (fun K hK => ?_) ?_
      · skip
        refine step_oneJ rfl _ rfl ⟨bt, 16, none⟩ rfl v hst0.stk crs_load ?_
        (try simp only [Act.put, sA, sB, sC])
        refine hK.out _ _ (hS0) ?_
        clear hHeld hK
        intro hHeld
        (try simp only [Act.put, sA, sB, sC])
        refine wpAnyH_ready (rs := [15]) (by kernel_rfl) (by simp) ?_
        refine AllReadyH.cons (by simp only [gA, gB, gC]; rfl) (fun K hK => ?_) AllReadyH.nil
        go_simp
        go_at_call 16
        refine (w16_any f.f 6 (by decide) (by decide) _).mono ?_
        rintro e w' ⟨rfl, hw⟩
        rw [hw]
        clear hw w'
        refine hK.out _ _ (hS0) ?_
        clear hHeld hK
        intro hHeld
        (try simp only [Act.put, sA, sB, sC])
        refine wpAnyH_ready (rs := [22]) (by kernel_rfl) (by simp) ?_
        refine AllReadyH.cons (by simp only [gA, gB, gC]; rfl) (fun K hK => ?_) AllReadyH.nil
        go_simp
        go_at_call 16
        refine (w16_any f.r 8 (by decide) (by decide) _).mono ?_
        rintro e w' ⟨rfl, hw⟩
        rw [hw]
        clear hw w'
        refine hK.out _ _ (hS0) ?_
        clear hHeld hK
        intro hHeld
        (try simp only [Act.put, sA, sB, sC])
        refine wpAnyH_take (i := 23) (v := ?_) (by simp only [gA, gB, gC]; rfl) (by kernel_rfl) (by kernel_rfl) (by kernel_rfl) (by exact fun _ _ _ h => h) (Or.inl ⟨by rfl, ?_⟩) (by assumption) ?_; rotate_left; (focus (intro w hSw; (try dsimp only at hSw); go_simp; try with_reducible rfl)); (try simp only [Act.put, sA, sB, sC])
        refine wpAnyH_ready (rs := [24]) (by kernel_rfl) (by simp) ?_
        refine AllReadyH.cons (by simp only [gA, gB, gC]; rfl) (fun K hK => ?_) AllReadyH.nil
        refine step_build1 fr_okC (by decide) rfl _ rfl (frc (bgF f)) rfl rfl ?_
        (try simp only [Act.put, sA, sB, sC])
        refine hK.out _ _ (hSA) ?_
        clear hHeld hK
        intro hHeld
        (try simp only [Act.put, sA, sB, sC])
        refine wpAnyH_ready (rs := [25]) (by kernel_rfl) (by simp) ?_
        refine AllReadyH.cons (by simp only [gA, gB, gC]; rfl) (fun K hK => ?_) AllReadyH.nil
        refine step_append rfl _ _ rfl rfl rfl rfl hap ?_
        (try simp only [Act.put, sA, sB, sC])
        refine hK.out _ _ (hS2) ?_
        clear hHeld hK
        intro hHeld
        clear hap
        (try simp only [Act.put, sA, sB, sC])
        refine wpAnyH_take (i := 26) (v := ?_) (by simp only [gA, gB, gC]; rfl) (by kernel_rfl) (by kernel_rfl) (by kernel_rfl) (by exact fun _ _ _ h => h) (Or.inl ⟨by rfl, ?_⟩) (by assumption) ?_; rotate_left; (focus (intro w hSw; (try dsimp only at hSw); go_simp; try with_reducible rfl)); (try simp only [Act.put, sA, sB, sC])
        refine wpAnyH_ready (rs := [27]) (by kernel_rfl) (by simp) ?_
        refine AllReadyH.cons (by simp only [gA, gB, gC]; rfl) (fun K hK => ?_) AllReadyH.nil
        have hfz := (hst2.blk.1 16 _ (st_stk hst2.ps)).2
        have hst3 := hst2.setStk v2
        have ho3 := ho2.keep (w' := W2.setCell ⟨bt, 16, none⟩ v2) (fun q hq => heap_setCell_other _ ⟨bt, 16, none⟩ q _ (by have := (ho2.lt hq).1; show q ≠ bt; omega))
        rw [← hstep] at ho3
        have hS3 := hS2.setCell (p := ⟨bt, 16, none⟩) (Nat.le_refl _) v2
        have hfx : BlkL w.heap.size X (W2.setCell ⟨bt, 16, none⟩ v2) := ⟨hx.1.same (hS3.block _ hlt), Nat.lt_of_lt_of_le hx.2 hS3.size⟩
        have hfr := hr.keepB hS3 hgt
        have hB3 := hB.trans (hS3.mono hle)
        refine step_storeK rfl _ _ rfl ⟨bt, 16, none⟩ rfl v2 rfl (crsB_store _ _ _ _ hv2 hst2.stk hfz) ?_
        (try simp only [Act.put, sA, sB, sC])
        refine hK.out _ _ (hS3) ?_
        clear hHeld hK
        intro hHeld
        (try simp only [Act.put, sA, sB, sC])
        refine wpAnyH_done (by kernel_rfl) ?_ _
        clear hv2
        go_wp2_with fail
        exact ⟨⟨k + 1, v2, by omega, by omega, by simp, hfx, hfr, hst3, ho3, hB3⟩, by simp [Go.RowKit.intOf]; omega⟩
      refine AllReadyH.cons (by simp only [gA, gB, gC]; rfl) (fun K hK => ?_) AllReadyH.nil
      go_simp
      go_at_call 16
      refine (w16_any f.f 6 (by decide) (by decide) _).mono ?_
      rintro e w' ⟨rfl, hw⟩
      rw [hw]
      clear hw w'
      refine hK.out _ _ (hS0) ?_
      clear hHeld hK
      intro hHeld
      (try simp only [Act.put, sA, sB, sC])
      refine wpAnyH_ready (rs := [1, 22]) (by kernel_rfl) (by simp) ?_
      refine AllReadyH.cons (by simp only [gA, gB, gC]; rfl) (fun K hK => ?_) ?_
      · skip
        refine step_oneJ rfl _ rfl ⟨bt, 16, none⟩ rfl v hst0.stk crs_load ?_
        (try simp only [Act.put, sA, sB, sC])
        refine hK.out _ _ (hS0) ?_
        clear hHeld hK
        intro hHeld
        (try simp only [Act.put, sA, sB, sC])
        refine wpAnyH_ready (rs := [22]) (by kernel_rfl) (by simp) ?_
        refine AllReadyH.cons (by simp only [gA, gB, gC]; rfl) (fun K hK => ?_) AllReadyH.nil
        go_simp
        go_at_call 16
        refine (w16_any f.r 8 (by decide) (by decide) _).mono ?_
        rintro e w' ⟨rfl, hw⟩
        rw [hw]
        clear hw w'
        refine hK.out _ _ (hS0) ?_
        clear hHeld hK
        intro hHeld
        (try simp only [Act.put, sA, sB, sC])
        refine wpAnyH_take (i := 23) (v := ?_) (by simp only [gA, gB, gC]; rfl) (by kernel_rfl) (by kernel_rfl) (by kernel_rfl) (by exact fun _ _ _ h => h) (Or.inl ⟨by rfl, ?_⟩) (by assumption) ?_; rotate_left; (focus (intro w hSw; (try dsimp only at hSw); go_simp; try with_reducible rfl)); (try simp only [Act.put, sA, sB, sC])
        refine wpAnyH_ready (rs := [24]) (by kernel_rfl) (by simp) ?_
        refine AllReadyH.cons (by simp only [gA, gB, gC]; rfl) (fun K hK => ?_) AllReadyH.nil
        refine step_build1 fr_okC (by decide) rfl _ rfl (frc (bgF f)) rfl rfl ?_
        (try simp only [Act.put, sA, sB, sC])
        refine hK.out _ _ (hSA) ?_
        clear hHeld hK
        intro hHeld
        (try simp only [Act.put, sA, sB, sC])
        refine wpAnyH_ready (rs := [25]) (by kernel_rfl) (by simp) ?_
        refine AllReadyH.cons (by simp only [gA, gB, gC]; rfl) (fun K hK => ?_) AllReadyH.nil
        refine step_append rfl _ _ rfl rfl rfl rfl hap ?_
        (try simp only [Act.put, sA, sB, sC])
        refine hK.out _ _ (hS2) ?_
        clear hHeld hK
        intro hHeld
        clear hap
        (try simp only [Act.put, sA, sB, sC])
        refine wpAnyH_take (i := 26) (v := ?_) (by simp only [gA, gB, gC]; rfl) (by kernel_rfl) (by kernel_rfl) (by kernel_rfl) (by exact fun _ _ _ h => h) (Or.inl ⟨by rfl, ?_⟩) (by assumption) ?_; rotate_left; (focus (intro w hSw; (try dsimp only at hSw); go_simp; try with_reducible rfl)); (try simp only [Act.put, sA, sB, sC])
        refine wpAnyH_ready (rs := [27]) (by kernel_rfl) (by simp) ?_
        refine AllReadyH.cons (by simp only [gA, gB, gC]; rfl) (fun K hK => ?_) AllReadyH.nil
        have hfz := (hst2.blk.1 16 _ (st_stk hst2.ps)).2
        have hst3 := hst2.setStk v2
        have ho3 := ho2.keep (w' := W2.setCell ⟨bt, 16, none⟩ v2) (fun q hq => heap_setCell_other _ ⟨bt, 16, none⟩ q _ (by have := (ho2.lt hq).1; show q ≠ bt; omega))
        rw [← hstep] at ho3
        have hS3 := hS2.setCell (p := ⟨bt, 16, none⟩) (Nat.le_refl _) v2
        have hfx : BlkL w.heap.size X (W2.setCell ⟨bt, 16, none⟩ v2) := ⟨hx.1.same (hS3.block _ hlt), Nat.lt_of_lt_of_le hx.2 hS3.size⟩
        have hfr := hr.keepB hS3 hgt
        have hB3 := hB.trans (hS3.mono hle)
        refine step_storeK rfl _ _ rfl ⟨bt, 16, none⟩ rfl v2 rfl (crsB_store _ _ _ _ hv2 hst2.stk hfz) ?_
        (try simp only [Act.put, sA, sB, sC])
        refine hK.out _ _ (hS3) ?_
        clear hHeld hK
        intro hHeld
        (try simp only [Act.put, sA, sB, sC])
        refine wpAnyH_done (by kernel_rfl) ?_ _
        clear hv2
        go_wp2_with fail
        exact ⟨⟨k + 1, v2, by omega, by omega, by simp, hfx, hfr, hst3, ho3, hB3⟩, by simp [Go.RowKit.intOf]; omega⟩
      refine AllReadyH.cons (by simp only [gA, gB, gC]; rfl) (fun K hK => ?_) AllReadyH.nil
      go_simp
      go_at_call 16
      refine (w16_any f.r 8 (by decide) (by decide) _).mono ?_
      rintro e w' ⟨rfl, hw⟩
      rw [hw]
      clear hw w'
      refine hK.out _ _ (hS0) ?_
      clear hHeld hK
      intro hHeld
      (try simp only [Act.put, sA, sB, sC])
      refine wpAnyH_take (i := 23) (v := ?_) (by simp only [gA, gB, gC]; rfl) (by kernel_rfl) (by kernel_rfl) (by kernel_rfl) (by exact fun _ _ _ h => h) (Or.inl ⟨by rfl, ?_⟩) (by assumption) ?_; rotate_left; (focus (intro w hSw; (try dsimp only at hSw); go_simp; try with_reducible rfl)); (try simp only [Act.put, sA, sB, sC])
      refine wpAnyH_ready (rs := [1, 24]) (by kernel_rfl) (by simp) ?_
      refine AllReadyH.cons (by simp only [gA, gB, gC]; rfl) (fun K hK => ?_) ?_
      · skip
        refine step_oneJ rfl _ rfl ⟨bt, 16, none⟩ rfl v hst0.stk crs_load ?_
        (try simp only [Act.put, sA, sB, sC])
        refine hK.out _ _ (hS0) ?_
        clear hHeld hK
        intro hHeld
        (try simp only [Act.put, sA, sB, sC])
        refine wpAnyH_ready (rs := [24]) (by kernel_rfl) (by simp) ?_
        refine AllReadyH.cons (by simp only [gA, gB, gC]; rfl) (fun K hK => ?_) AllReadyH.nil
        refine step_build1 fr_okC (by decide) rfl _ rfl (frc (bgF f)) rfl rfl ?_
        (try simp only [Act.put, sA, sB, sC])
        refine hK.out _ _ (hSA) ?_
        clear hHeld hK
        intro hHeld
        (try simp only [Act.put, sA, sB, sC])
        refine wpAnyH_ready (rs := [25]) (by kernel_rfl) (by simp) ?_
        refine AllReadyH.cons (by simp only [gA, gB, gC]; rfl) (fun K hK => ?_) AllReadyH.nil
        refine step_append rfl _ _ rfl rfl rfl rfl hap ?_
        (try simp only [Act.put, sA, sB, sC])
        refine hK.out _ _ (hS2) ?_
        clear hHeld hK
        intro hHeld
        clear hap
        (try simp only [Act.put, sA, sB, sC])
        refine wpAnyH_take (i := 26) (v := ?_) (by simp only [gA, gB, gC]; rfl) (by kernel_rfl) (by kernel_rfl) (by kernel_rfl) (by exact fun _ _ _ h => h) (Or.inl ⟨by rfl, ?_⟩) (by assumption) ?_; rotate_left; (focus (intro w hSw; (try dsimp only at hSw); go_simp; try with_reducible rfl)); (try simp only [Act.put, sA, sB, sC])
        refine wpAnyH_ready (rs := [27]) (by kernel_rfl) (by simp) ?_
        refine AllReadyH.cons (by simp only [gA, gB, gC]; rfl) (fun K hK => ?_) AllReadyH.nil
        have hfz := (hst2.blk.1 16 _ (st_stk hst2.ps)).2
        have hst3 := hst2.setStk v2
        have ho3 := ho2.keep (w' := W2.setCell ⟨bt, 16, none⟩ v2) (fun q hq => heap_setCell_other _ ⟨bt, 16, none⟩ q _ (by have := (ho2.lt hq).1; show q ≠ bt; omega))
        rw [← hstep] at ho3
        have hS3 := hS2.setCell (p := ⟨bt, 16, none⟩) (Nat.le_refl _) v2
        have hfx : BlkL w.heap.size X (W2.setCell ⟨bt, 16, none⟩ v2) := ⟨hx.1.same (hS3.block _ hlt), Nat.lt_of_lt_of_le hx.2 hS3.size⟩
        have hfr := hr.keepB hS3 hgt
        have hB3 := hB.trans (hS3.mono hle)
        refine step_storeK rfl _ _ rfl ⟨bt, 16, none⟩ rfl v2 rfl (crsB_store _ _ _ _ hv2 hst2.stk hfz) ?_
        (try simp only [Act.put, sA, sB, sC])
        refine hK.out _ _ (hS3) ?_
        clear hHeld hK
        intro hHeld
        (try simp only [Act.put, sA, sB, sC])
        refine wpAnyH_done (by kernel_rfl) ?_ _
        clear hv2
        go_wp2_with fail
        exact ⟨⟨k + 1, v2, by omega, by omega, by simp, hfx, hfr, hst3, ho3, hB3⟩, by simp [Go.RowKit.intOf]; omega⟩
      refine AllReadyH.cons (by simp only [gA, gB, gC]; rfl) (fun K hK => ?_) AllReadyH.nil
      refine step_build1 fr_okC (by decide) rfl _ rfl (frc (bgF f)) rfl rfl ?_
      (try simp only [Act.put, sA, sB, sC])
      refine hK.out _ _ (hSA) ?_
      clear hHeld hK
      intro hHeld
      (try simp only [Act.put, sA, sB, sC])
      refine wpAnyH_ready (rs := [1]) (by kernel_rfl) (by simp) ?_
      refine AllReadyH.cons (by simp only [gA, gB, gC]; rfl) (fun K hK => ?_) AllReadyH.nil
      refine step_oneJ rfl _ rfl ⟨bt, 16, none⟩ rfl v hstA.stk crs_load ?_
      (try simp only [Act.put, sA, sB, sC])
      refine hK.out _ _ (hSA) ?_
      clear hHeld hK
      intro hHeld
      (try simp only [Act.put, sA, sB, sC])
      refine wpAnyH_ready (rs := [25]) (by kernel_rfl) (by simp) ?_
      refine AllReadyH.cons (by simp only [gA, gB, gC]; rfl) (fun K hK => ?_) AllReadyH.nil
      refine step_append rfl _ _ rfl rfl rfl rfl hap ?_
      (try simp only [Act.put, sA, sB, sC])
      refine hK.out _ _ (hS2) ?_
      clear hHeld hK
      intro hHeld
      clear hap
      (try simp only [Act.put, sA, sB, sC])
      refine wpAnyH_take (i := 26) (v := ?_) (by simp only [gA, gB, gC]; rfl) (by kernel_rfl) (by kernel_rfl) (by kernel_rfl) (by exact fun _ _ _ h => h) (Or.inl ⟨by rfl, ?_⟩) (by assumption) ?_; rotate_left; (focus (intro w hSw; (try dsimp only at hSw); go_simp; try with_reducible rfl)); (try simp only [Act.put, sA, sB, sC])
      refine wpAnyH_ready (rs := [27]) (by kernel_rfl) (by simp) ?_
      refine AllReadyH.cons (by simp only [gA, gB, gC]; rfl) (fun K hK => ?_) AllReadyH.nil
      have hfz := (hst2.blk.1 16 _ (st_stk hst2.ps)).2
      have hst3 := hst2.setStk v2
      have ho3 := ho2.keep (w' := W2.setCell ⟨bt, 16, none⟩ v2) (fun q hq => heap_setCell_other _ ⟨bt, 16, none⟩ q _ (by have := (ho2.lt hq).1; show q ≠ bt; omega))
      rw [← hstep] at ho3
      have hS3 := hS2.setCell (p := ⟨bt, 16, none⟩) (Nat.le_refl _) v2
      have hfx : BlkL w.heap.size X (W2.setCell ⟨bt, 16, none⟩ v2) := ⟨hx.1.same (hS3.block _ hlt), Nat.lt_of_lt_of_le hx.2 hS3.size⟩
      have hfr := hr.keepB hS3 hgt
      have hB3 := hB.trans (hS3.mono hle)
      refine step_storeK rfl _ _ rfl ⟨bt, 16, none⟩ rfl v2 rfl (crsB_store _ _ _ _ hv2 hst2.stk hfz) ?_
      (try simp only [Act.put, sA, sB, sC])
      refine hK.out _ _ (hS3) ?_
      clear hHeld hK
      intro hHeld
      (try simp only [Act.put, sA, sB, sC])
      refine wpAnyH_done (by kernel_rfl) ?_ _
      clear hv2
      go_wp2_with fail
      exact ⟨⟨k + 1, v2, by omega, by omega, by simp, hfx, hfr, hst3, ho3, hB3⟩, by simp [Go.RowKit.intOf]; omega⟩
    · have hend : c.st.take k = c.st.take 8 := by
        have := hnn.out
        by_cases h8 : k = 8
        · rw [h8]
        · rw [List.take_of_length_le (by omega), List.take_of_length_le (by omega)]
      obtain ⟨W3, hW3, hth3, hr3, hk3⟩ := put_st hr (d := begK c 4) hst.ps v
      have hB3 := hk3 _ _ (Nat.le_succ _) hB
      have hrg := hst.blk.range
      have hr3r := hr3.blk.range
      obtain ⟨a2, cap2, hv2, -, -, -⟩ := ho.slice frc_len
      have hone := st_one (begK c 4) v (by rw [hv2]; rfl)
      have ho3 : OwnR 84 3 frc W3 (bt + 1) v ((c.st.take k).map bgF) := by
        rw [← hW3]
        exact ho.mid (fun q => by have := (ho.lt q).1; omega) _ _
      have ho4 := ho3.lower (show w.heap.size ≤ bt + 1 by omega)
      rw [hend] at ho4
      have hlen : (stCs (begK c 4) v).length = 18 := st_len hst.ps
      rw [begK_four h4] at hW3 hth3 hrg hr3r hone hlen
      obtain ⟨Y, hY⟩ : ∃ Y, stCs (begC c) v = Y := ⟨_, rfl⟩
      rw [hY] at hW3 hth3 hrg hr3r hone hlen
      replace hY : Aside (stCs (begC c) v = Y) := hY
      have hszY : (Try.prog.info? 33).map (·.size) = some Y.length := by rw [hlen]; exact hszS
      have hsplit : ¬ (k : Int) < (n : Int) ∨ (k : Int) < (n : Int) ∧ ¬ (k : Int) < 8 := by omega
      clear hr hst hB hr3 hk3 ho ho3 hv2 hlen hend hgo hx
      rcases hsplit with j1 | ⟨j1, j2⟩
      all_goals
        go_wp2_with (first | (refine wpList_load_row rfl _ rfl bt rfl Y hrg hundS rfl hszY ?_) | (refine wpList_store_row rfl _ _ rfl (w.heap.size + 1) rfl Y rfl hth3 hszY hone hW3 ?_) | fail)
        refine bodyPost_ret (v := .agg Y.toArray) (results_row1 rfl _ _ (w.heap.size + 1) rfl Y hr3r hundS rfl hszY) rfl ?_
        exact ⟨v, by rw [hY.out], ho4, hB3⟩
end Go.Proofs.Ytinibccphecdfaa
