/-
  PART 3 of what the claims of this seat lean on: CpuFnF CpuFnG CpuFnH CpuFnI CpuFnJ CpuFnK CpuFnL.
-/
import Derived.Test.YtinibccphecdfaaPt2
/-! PACKAGE cpu AS IT LANDED: fetch. Written by mk_cpufnf.py. -/
namespace Go.Proofs.Ytinibccphecdfaa
open Go.RowKit
set_option maxRecDepth 8000
set_option linter.unusedSimpArgs false
set_option linter.unusedVariables false

def ftG (g : Sg) (c : Cp) : Int := if g.is = false then 35 else if hasM g.md 4 = false ∨ mayX g.rg c.ring = false then 33 else if ¬ inG g c.off then 35 else if decE (wAt g c.off) ≠ 0 then 36 else 0
theorem fetE_eq (c : Cp) (m : List Sg) : fetE c m = ftG (kn m c.seg) c := rfl
/-- What a fetch comes to: a fault, or an instruction, and one word further. -/
def FtP (bx : Nat) (c : Cp) (v : Value) (r : List Value) (g : Sg) (E : Int) (w : World) (e : Ending) (w' : World) : Prop :=
  (E ≠ 0 ∧ e = .panicked (thr E) ∧ Below w.heap.size w w') ∨ (E = 0 ∧ e = .returned (.agg (ins3 (decI (wAt g c.off))).toArray) ∧ XAt bx { c with off := c.off + 1 } v r w' ∧ Sole bx w w')
theorem needB_ok (e : Int) (w : World) : Calls Try.prog 64 #[.bool true, .int .i64 e] w fun r w' => r = .returned (.tuple #[]) ∧ Below w.heap.size w w' := (need_ok e w).mono fun r w' h => ⟨h.1, by rw [h.2]; exact Below.refl _ _⟩
theorem needB_no (e : Int) (w : World) : Calls Try.prog 64 #[.bool false, .int .i64 e] w fun r w' => r = .panicked (thr e) ∧ Below w.heap.size w w' := (need_no e w).mono fun r w' h => ⟨h.1, by rw [h.2]; exact Below.refl _ _⟩
/-- What fetch's third region keeps. -/
structure SF (bx bg br : Nat) (c : Cp) (v : Value) (r G : List Value) (W : World) : Prop where
  x : XAt bx c v r W
  g : BlkL bg G W
  r : BlkL br (ins3 ⟨0, 0, 0⟩) W
theorem SF.keep {bx bg br : Nat} {c : Cp} {v : Value} {r G : List Value} {W W' : World} (h : SF bx bg br c v r G W) (hb : Below W.heap.size W W') : SF bx bg br c v r G W' := ⟨h.x.keep hb, stab_blk _ _ _ _ h.g hb, stab_blk _ _ _ _ h.r hb⟩
set_option maxRecDepth 8000 in
set_option maxHeartbeats 4000000 in
theorem cfetch_any (bm bx : Nat) (a : Option Addr) (cap : Nat) (m : List PG) (hm : MG m) (c : Cp) (v : Value) (r : List Value) (g : Sg) (hg : kn (m.map (·.g)) c.seg = g) (E : Int) (hE : ftG g c = E) (w : World) (hM : MAt bm a cap m w) (hX : XAt bx c v (memI bm :: r) w) :
    Calls Try.prog 36 #[.pointer (some ⟨bx, 0, none⟩)] w (FtP bx c v (memI bm :: r) g E w) := by
  have hundC := Try.underlying60
  have hszC : (Try.prog.info? 60).map (·.size) = some 6 := by kernel_rfl
  have hundR := Try.underlying55
  have hszR : (Try.prog.info? 55).map (·.size) = some 4 := by kernel_rfl
  have hundI := Try.underlying64
  have hszI : (Try.prog.info? 64).map (·.size) = some 3 := by kernel_rfl
  have hr0 := blkl_alloc w (ins3 ⟨0, 0, 0⟩).toArray 64
  have hB0 := alloc_below w (.cells (ins3 ⟨0, 0, 0⟩).toArray 64)
  have hX1 := hX.keep hB0
  have hM1 := hM.below hB0
  have hbx := hX.lt
  have hgok : g.Ok := by rw [← hg]; exact kn_ok (fun g hg => by obtain ⟨x, hx, rfl⟩ := List.mem_map.1 hg; exact hm.ok x hx) _
  replace hr0 : BlkL w.heap.size (ins3 ⟨0, 0, 0⟩) (w.alloc (.cells #[.int .i64 0, .int .i64 0, .int .i64 0] 64)) := hr0
  replace hX1 : XAt bx c v (memI bm :: r) (w.alloc (.cells #[.int .i64 0, .int .i64 0, .int .i64 0] 64)) := hX1
  replace hM1 : MAt bm a cap m (w.alloc (.cells #[.int .i64 0, .int .i64 0, .int .i64 0] 64)) := hM1
  replace hB0 : Below w.heap.size w (w.alloc (.cells #[.int .i64 0, .int .i64 0, .int .i64 0] 64)) := hB0
  clear hX hM
  have kn0 := fun (W : World) h1 h2 => cseg_none bm bx a cap m hm c v r c.seg W h1 h2
  have kn1 := fun (W : World) h1 h2 => cseg_some bm bx a cap m hm c v r c.seg W h1 h2
  rw [hg] at kn0 kn1
  by_cases c1 : g.is = false
  · have e35 : E = 35 := by rw [← hE, ftG, if_pos c1]
    subst e35
    replace hE : Aside (ftG g c = 35) := hE
    clear kn1 hg hr0
    go_enter Try.func36, Try.ntmps36
    go_upto_region 1 with fail
    generalize w.alloc (.cells #[.int .i64 0, .int .i64 0, .int .i64 0] 64) = W0 at *
    have z0 := hX1.seg
    go_wp2_with fail
    refine (kn0 W0 hM1 hX1 c1).mono ?_
    rintro e W1 ⟨rfl, hb⟩
    go_wp2_with fail
    exact diedC (.inl ⟨by decide, rfl, Below.then hB0 hb⟩)
  have c1' : g.is = true := by simpa using c1
  replace hE : Aside (ftG g c = E) := hE
  clear kn0 hg
  go_enter Try.func36, Try.ntmps36
  go_upto_region 1 with fail
  generalize w.alloc (.cells #[.int .i64 0, .int .i64 0, .int .i64 0] 64) = W0 at *
  have z0 := hX1.seg
  go_wp2_with fail
  refine (kn1 W0 hM1 hX1 c1').mono ?_
  rintro e W1 ⟨u, rfl, ho, hb⟩
  obtain ⟨W2, hW2, hth2, hg2, hB2⟩ := new_sg W1 g u
  obtain ⟨ua, uc, hu, -, -, hrow⟩ := ho.slice wd_okC.len
  have hX2 := (hX1.keep hb).keep hB2
  have hr2 := stab_blk _ _ _ _ (stab_blk _ _ _ _ hr0 hb) hB2
  have hBB := Below.then (Below.then hB0 hb) hB2
  have hrow2 := hrow.below wd_okC.len hB2
  have hl1 := hr0.2
  have hl2 := hb.size
  subst hu
  have hone := sg6_one g ua g.ws.length uc
  have ka := fun (W : World) => allows_any g (.slice ua g.ws.length uc) 4 W
  have kw0 := fun (W : World) h => cword_no g ua uc c.off W h
  have kw1 := fun (W : World) h1 h2 => cword_ok g ua uc c.off W h1 h2
  obtain ⟨X, hXe⟩ : ∃ X, sg6 g (.slice ua g.ws.length uc) = X := ⟨_, rfl⟩
  have hl : X.length = 6 := by rw [← hXe]; rfl
  have hszX : (Try.prog.info? 60).map (·.size) = some X.length := by rw [hl]; exact hszC
  have hfr : ∀ W b, BlkL b X W → W.rangeAt b 2 (rg4 g.rg) := fun W b h => by rw [← hXe] at h; exact fld_rg h
  simp only [hXe] at hW2 hth2 hg2 hone ka kw0 kw1
  have hXv : Aside (.agg (sg6 g (.slice ua g.ws.length uc)).toArray = Value.agg X.toArray) := by rw [hXe]; exact rfl
  clear hXe hl ho hrow hb hB2 hr0 hB0 z0 kn1 hM1 hX1 hm
  go_upto_region 2 with (first | (refine wpList_store_row rfl _ _ rfl W1.heap.size rfl X hXv.out hth2 hszX hone hW2 ?_) | fail)
  clear hW2 hth2 hXv
  have hl3 := hg2.2
  have hl4 := hX2.lt
  generalize W1.heap.size = bg at *
  have z2 := hX2.ring
  have hS0 := (Below.refl W2.heap.size W2).drew
  have hb8 : g.rg.v = .agg (rg4 g.rg).toArray := rfl
  have kx := fun (W : World) => mayExec_any g.rg c.ring W
  rw [hb8] at kx
  clear hb8
  cases c2 : hasM g.md 4 with
  | false =>
    have hEE : Aside (E = 33) := by
      show _ = _
      rw [← hE.out, ftG, if_neg c1, if_pos (.inl c2)]
    rw [c2] at ka
    clear hE c2 kw0 kw1
    refine wp_region_held_drew (S := (fun W => Below W2.heap.size W2 W)) (by kernel_rfl) (by exact hS0) ?_
    intro hHeld
    generalize W2.drew = w0 at *
    refine wpAnyH_take (i := 0) (v := _) (by simp only [gA, gB, gC]; rfl) (by kernel_rfl) (by kernel_rfl) (by kernel_rfl) (by exact fun _ _ _ h => h) (yields_row (by rfl) _ rfl bg rfl X (fun _ q => (stab_blk _ _ _ _ hg2 q).range) hundC rfl hszX) (by assumption) ?_; (try simp only [Act.put, sA, sB, sC])
    refine wpAnyH_ready (rs := [1]) (by kernel_rfl) (by simp) ?_
    refine AllReadyH.cons (by simp only [gA, gB, gC]; rfl) (fun K hK => ?_) AllReadyH.nil
    go_simp
    go_at_call 65
    refine (ka w0).mono ?_
    rintro e w1 ⟨rfl, hb⟩
    have hS1 := Below.then hS0 hb
    clear hb
    refine hK.out _ _ (by exact hS1) ?_
    clear hHeld hK
    intro hHeld
    (try simp only [Act.put, sA, sB, sC])
    refine wpAnyH_take (i := 2) (v := ?_) (by simp only [gA, gB, gC]; rfl) (by kernel_rfl) (by kernel_rfl) (by kernel_rfl) (by exact fun _ _ _ h => h) (Or.inl ⟨by rfl, ?_⟩) (by assumption) ?_; rotate_left; (focus (intro w hSw; (try dsimp only at hSw); go_simp; try with_reducible rfl)); (try simp only [Act.put, sA, sB, sC])
    refine wpAnyH_take (i := 3) (v := undef) (by simp only [gA, gB, gC]; rfl) (by kernel_rfl) (by kernel_rfl) (by kernel_rfl) (by exact fun _ _ _ h => h) (Or.inr ⟨by rfl, rfl⟩) (by assumption) ?_; (try simp only [Act.put, sA, sB, sC])
    refine wpAnyH_take (i := 4) (v := undef) (by simp only [gA, gB, gC]; rfl) (by kernel_rfl) (by kernel_rfl) (by kernel_rfl) (by exact fun _ _ _ h => h) (Or.inr ⟨by rfl, rfl⟩) (by assumption) ?_; (try simp only [Act.put, sA, sB, sC])
    refine wpAnyH_take (i := 5) (v := undef) (by simp only [gA, gB, gC]; rfl) (by kernel_rfl) (by kernel_rfl) (by kernel_rfl) (by exact fun _ _ _ h => h) (Or.inr ⟨by rfl, rfl⟩) (by assumption) ?_; (try simp only [Act.put, sA, sB, sC])
    refine wpAnyH_take (i := 6) (v := undef) (by simp only [gA, gB, gC]; rfl) (by kernel_rfl) (by kernel_rfl) (by kernel_rfl) (by exact fun _ _ _ h => h) (Or.inr ⟨by rfl, rfl⟩) (by assumption) ?_; (try simp only [Act.put, sA, sB, sC])
    refine wpAnyH_take (i := 7) (v := undef) (by simp only [gA, gB, gC]; rfl) (by kernel_rfl) (by kernel_rfl) (by kernel_rfl) (by exact fun _ _ _ h => h) (Or.inr ⟨by rfl, rfl⟩) (by assumption) ?_; (try simp only [Act.put, sA, sB, sC])
    refine wpAnyH_take (i := 8) (v := undef) (by simp only [gA, gB, gC]; rfl) (by kernel_rfl) (by kernel_rfl) (by kernel_rfl) (by exact fun _ _ _ h => h) (Or.inr ⟨by rfl, rfl⟩) (by assumption) ?_; (try simp only [Act.put, sA, sB, sC])
    refine wpAnyH_take (i := 9) (v := undef) (by simp only [gA, gB, gC]; rfl) (by kernel_rfl) (by kernel_rfl) (by kernel_rfl) (by exact fun _ _ _ h => h) (Or.inr ⟨by rfl, rfl⟩) (by assumption) ?_; (try simp only [Act.put, sA, sB, sC])
    refine wpAnyH_take (i := 10) (v := undef) (by simp only [gA, gB, gC]; rfl) (by kernel_rfl) (by kernel_rfl) (by kernel_rfl) (by exact fun _ _ _ h => h) (Or.inr ⟨by rfl, rfl⟩) (by assumption) ?_; (try simp only [Act.put, sA, sB, sC])
    refine wpAnyH_take (i := 11) (v := ?_) (by simp only [gA, gB, gC]; rfl) (by kernel_rfl) (by kernel_rfl) (by kernel_rfl) (by exact fun _ _ _ h => h) (Or.inl ⟨by rfl, ?_⟩) (by assumption) ?_; rotate_left; (focus (intro w hSw; (try dsimp only at hSw); go_simp; try with_reducible rfl)); (try simp only [Act.put, sA, sB, sC])
    refine wpAnyH_ready (rs := [12]) (by kernel_rfl) (by simp) ?_
    refine AllReadyH.cons (by simp only [gA, gB, gC]; rfl) (fun K hK => ?_) AllReadyH.nil
    go_simp
    go_at_call 64
    refine (needB_no 33 w1).mono ?_
    rintro e w2 ⟨rfl, hb⟩
    exact (show _ ∧ _ from ⟨rfl, .inl ⟨by rw [hEE.out]; decide, by rw [hEE.out], Below.then hBB (Below.then hS1 hb)⟩⟩)
  | true =>
  rw [c2] at ka
  cases c3 : mayX g.rg c.ring with
  | false =>
    have hEE : Aside (E = 33) := by
      show _ = _
      rw [← hE.out, ftG, if_neg c1, if_pos (.inr c3)]
    rw [c3] at kx
    clear hE c2 kw0 kw1 c3
    refine wp_region_held_drew (S := (fun W => Below W2.heap.size W2 W)) (by kernel_rfl) (by exact hS0) ?_
    intro hHeld
    generalize W2.drew = w0 at *
    refine wpAnyH_take (i := 0) (v := _) (by simp only [gA, gB, gC]; rfl) (by kernel_rfl) (by kernel_rfl) (by kernel_rfl) (by exact fun _ _ _ h => h) (yields_row (by rfl) _ rfl bg rfl X (fun _ q => (stab_blk _ _ _ _ hg2 q).range) hundC rfl hszX) (by assumption) ?_; (try simp only [Act.put, sA, sB, sC])
    refine wpAnyH_ready (rs := [1]) (by kernel_rfl) (by simp) ?_
    refine AllReadyH.cons (by simp only [gA, gB, gC]; rfl) (fun K hK => ?_) AllReadyH.nil
    go_simp
    go_at_call 65
    refine (ka w0).mono ?_
    rintro e w1 ⟨rfl, hb⟩
    have hS1 := Below.then hS0 hb
    clear hb
    refine hK.out _ _ (by exact hS1) ?_
    clear hHeld hK
    intro hHeld
    (try simp only [Act.put, sA, sB, sC])
    refine wpAnyH_take (i := 2) (v := ?_) (by simp only [gA, gB, gC]; rfl) (by kernel_rfl) (by kernel_rfl) (by kernel_rfl) (by exact fun _ _ _ h => h) (Or.inl ⟨by rfl, ?_⟩) (by assumption) ?_; rotate_left; (focus (intro w hSw; (try dsimp only at hSw); go_simp; try with_reducible rfl)); (try simp only [Act.put, sA, sB, sC])
    refine wpAnyH_take (i := 3) (v := ?_) (by simp only [gA, gB, gC]; rfl) (by kernel_rfl) (by kernel_rfl) (by kernel_rfl) (by exact fun _ _ _ h => h) (Or.inl ⟨by rfl, ?_⟩) (by assumption) ?_; rotate_left; (focus (intro w hSw; (try dsimp only at hSw); go_simp; try with_reducible rfl)); (try simp only [Act.put, sA, sB, sC])
    refine wpAnyH_take (i := 4) (v := _) (by simp only [gA, gB, gC]; rfl) (by kernel_rfl) (by kernel_rfl) (by kernel_rfl) (by exact fun _ _ _ h => h) (yieldsIf_load_mid (by rfl) 55 _ rfl bg 2 rfl (rg4 g.rg) _ (fun W q => hfr W bg (stab_blk _ _ _ _ hg2 q)) hundR rfl hszR) (by assumption) ?_; (try simp only [Act.put, sA, sB, sC])
    refine wpAnyH_take (i := 5) (v := ?_) (by simp only [gA, gB, gC]; rfl) (by kernel_rfl) (by kernel_rfl) (by kernel_rfl) (by exact fun _ _ _ h => h) (Or.inl ⟨by rfl, ?_⟩) (by assumption) ?_; rotate_left; (focus (intro w hSw; (try dsimp only at hSw); go_simp; try with_reducible rfl)); (try simp only [Act.put, sA, sB, sC])
    refine wpAnyH_take (i := 6) (v := ?_) (by simp only [gA, gB, gC]; rfl) (by kernel_rfl) (by kernel_rfl) (by kernel_rfl) (by exact fun _ _ _ h => h) (Or.inl ⟨by rfl, ?_⟩) (by assumption) ?_; rotate_left; (focus (intro w hSw; (try dsimp only at hSw); go_simp; try with_reducible rfl)); (try simp only [Act.put, sA, sB, sC])
    refine wpAnyH_take (i := 7) (v := ?_) (by simp only [gA, gB, gC]; rfl) (by kernel_rfl) (by kernel_rfl) (by kernel_rfl) (by exact fun _ _ _ h => h) (Or.inl ⟨by rfl, ?_⟩) (by assumption) ?_; rotate_left; (focus (intro w hSw; (try dsimp only at hSw); go_simp; try with_reducible rfl)); (try simp only [Act.put, sA, sB, sC])
    refine wpAnyH_take (i := 8) (v := ?_) (by simp only [gA, gB, gC]; rfl) (by kernel_rfl) (by kernel_rfl) (by kernel_rfl) (by exact fun _ _ _ h => h) (Or.inl ⟨by rfl, ?_⟩) (by assumption) ?_; rotate_left; (focus (intro w hSw; (try dsimp only at hSw); go_simp; try with_reducible rfl)); (try simp only [Act.put, sA, sB, sC])
    refine wpAnyH_take (i := 9) (v := _) (by simp only [gA, gB, gC]; rfl) (by kernel_rfl) (by kernel_rfl) (by kernel_rfl) (by exact fun _ _ _ h => h) (yields_cellI (by rfl) _ rfl ⟨bx, 2, none⟩ rfl (.int .i64 c.ring) (fun _ q => (hX2.keep q).ring) intI_load) (by assumption) ?_; (try simp only [Act.put, sA, sB, sC])
    refine wpAnyH_ready (rs := [10]) (by kernel_rfl) (by simp) ?_
    refine AllReadyH.cons (by simp only [gA, gB, gC]; rfl) (fun K hK => ?_) AllReadyH.nil
    go_simp
    go_at_call 66
    refine (kx w1).mono ?_
    rintro e w2 ⟨rfl, hb⟩
    have hS2 := Below.then hS1 hb
    clear hb
    refine hK.out _ _ (by exact hS2) ?_
    clear hHeld hK
    intro hHeld
    (try simp only [Act.put, sA, sB, sC])
    refine wpAnyH_take (i := 11) (v := ?_) (by simp only [gA, gB, gC]; rfl) (by kernel_rfl) (by kernel_rfl) (by kernel_rfl) (by exact fun _ _ _ h => h) (Or.inl ⟨by rfl, ?_⟩) (by assumption) ?_; rotate_left; (focus (intro w hSw; (try dsimp only at hSw); go_simp; try with_reducible rfl)); (try simp only [Act.put, sA, sB, sC])
    refine wpAnyH_ready (rs := [12]) (by kernel_rfl) (by simp) ?_
    refine AllReadyH.cons (by simp only [gA, gB, gC]; rfl) (fun K hK => ?_) AllReadyH.nil
    go_simp
    go_at_call 64
    refine (needB_no 33 w2).mono ?_
    rintro e w3 ⟨rfl, hb⟩
    exact (show _ ∧ _ from ⟨rfl, .inl ⟨by rw [hEE.out]; decide, by rw [hEE.out], Below.then hBB (Below.then hS2 hb)⟩⟩)
  | true =>
  rw [c3] at kx
  have hE2 : Aside (E = if ¬ inG g c.off then 35 else if decE (wAt g c.off) ≠ 0 then 36 else 0) := by
    show _ = _
    rw [← hE.out, ftG, if_neg c1, if_neg (by rw [c3, c2]; simp)]
  clear hE c1 c2 c1' c3
  refine wp_region_held_drew (S := (fun W => Below W2.heap.size W2 W)) (by kernel_rfl) (by exact hS0) ?_
  intro hHeld
  generalize W2.drew = w0 at *
  refine wpAnyH_take (i := 0) (v := _) (by simp only [gA, gB, gC]; rfl) (by kernel_rfl) (by kernel_rfl) (by kernel_rfl) (by exact fun _ _ _ h => h) (yields_row (by rfl) _ rfl bg rfl X (fun _ q => (stab_blk _ _ _ _ hg2 q).range) hundC rfl hszX) (by assumption) ?_; (try simp only [Act.put, sA, sB, sC])
  refine wpAnyH_ready (rs := [1]) (by kernel_rfl) (by simp) ?_
  refine AllReadyH.cons (by simp only [gA, gB, gC]; rfl) (fun K hK => ?_) AllReadyH.nil
  go_simp
  go_at_call 65
  refine (ka w0).mono ?_
  rintro e w1 ⟨rfl, hb⟩
  have hS1 := Below.then hS0 hb
  clear hb
  refine hK.out _ _ (by exact hS1) ?_
  clear hHeld hK
  intro hHeld
  (try simp only [Act.put, sA, sB, sC])
  refine wpAnyH_take (i := 2) (v := ?_) (by simp only [gA, gB, gC]; rfl) (by kernel_rfl) (by kernel_rfl) (by kernel_rfl) (by exact fun _ _ _ h => h) (Or.inl ⟨by rfl, ?_⟩) (by assumption) ?_; rotate_left; (focus (intro w hSw; (try dsimp only at hSw); go_simp; try with_reducible rfl)); (try simp only [Act.put, sA, sB, sC])
  refine wpAnyH_take (i := 3) (v := ?_) (by simp only [gA, gB, gC]; rfl) (by kernel_rfl) (by kernel_rfl) (by kernel_rfl) (by exact fun _ _ _ h => h) (Or.inl ⟨by rfl, ?_⟩) (by assumption) ?_; rotate_left; (focus (intro w hSw; (try dsimp only at hSw); go_simp; try with_reducible rfl)); (try simp only [Act.put, sA, sB, sC])
  refine wpAnyH_take (i := 4) (v := _) (by simp only [gA, gB, gC]; rfl) (by kernel_rfl) (by kernel_rfl) (by kernel_rfl) (by exact fun _ _ _ h => h) (yieldsIf_load_mid (by rfl) 55 _ rfl bg 2 rfl (rg4 g.rg) _ (fun W q => hfr W bg (stab_blk _ _ _ _ hg2 q)) hundR rfl hszR) (by assumption) ?_; (try simp only [Act.put, sA, sB, sC])
  refine wpAnyH_take (i := 5) (v := ?_) (by simp only [gA, gB, gC]; rfl) (by kernel_rfl) (by kernel_rfl) (by kernel_rfl) (by exact fun _ _ _ h => h) (Or.inl ⟨by rfl, ?_⟩) (by assumption) ?_; rotate_left; (focus (intro w hSw; (try dsimp only at hSw); go_simp; try with_reducible rfl)); (try simp only [Act.put, sA, sB, sC])
  refine wpAnyH_take (i := 6) (v := ?_) (by simp only [gA, gB, gC]; rfl) (by kernel_rfl) (by kernel_rfl) (by kernel_rfl) (by exact fun _ _ _ h => h) (Or.inl ⟨by rfl, ?_⟩) (by assumption) ?_; rotate_left; (focus (intro w hSw; (try dsimp only at hSw); go_simp; try with_reducible rfl)); (try simp only [Act.put, sA, sB, sC])
  refine wpAnyH_take (i := 7) (v := ?_) (by simp only [gA, gB, gC]; rfl) (by kernel_rfl) (by kernel_rfl) (by kernel_rfl) (by exact fun _ _ _ h => h) (Or.inl ⟨by rfl, ?_⟩) (by assumption) ?_; rotate_left; (focus (intro w hSw; (try dsimp only at hSw); go_simp; try with_reducible rfl)); (try simp only [Act.put, sA, sB, sC])
  refine wpAnyH_take (i := 8) (v := ?_) (by simp only [gA, gB, gC]; rfl) (by kernel_rfl) (by kernel_rfl) (by kernel_rfl) (by exact fun _ _ _ h => h) (Or.inl ⟨by rfl, ?_⟩) (by assumption) ?_; rotate_left; (focus (intro w hSw; (try dsimp only at hSw); go_simp; try with_reducible rfl)); (try simp only [Act.put, sA, sB, sC])
  refine wpAnyH_take (i := 9) (v := _) (by simp only [gA, gB, gC]; rfl) (by kernel_rfl) (by kernel_rfl) (by kernel_rfl) (by exact fun _ _ _ h => h) (yields_cellI (by rfl) _ rfl ⟨bx, 2, none⟩ rfl (.int .i64 c.ring) (fun _ q => (hX2.keep q).ring) intI_load) (by assumption) ?_; (try simp only [Act.put, sA, sB, sC])
  refine wpAnyH_ready (rs := [10]) (by kernel_rfl) (by simp) ?_
  refine AllReadyH.cons (by simp only [gA, gB, gC]; rfl) (fun K hK => ?_) AllReadyH.nil
  go_simp
  go_at_call 66
  refine (kx w1).mono ?_
  rintro e w2 ⟨rfl, hb⟩
  have hS2 := Below.then hS1 hb
  clear hb
  refine hK.out _ _ (by exact hS2) ?_
  clear hHeld hK
  intro hHeld
  (try simp only [Act.put, sA, sB, sC])
  refine wpAnyH_take (i := 11) (v := ?_) (by simp only [gA, gB, gC]; rfl) (by kernel_rfl) (by kernel_rfl) (by kernel_rfl) (by exact fun _ _ _ h => h) (Or.inl ⟨by rfl, ?_⟩) (by assumption) ?_; rotate_left; (focus (intro w hSw; (try dsimp only at hSw); go_simp; try with_reducible rfl)); (try simp only [Act.put, sA, sB, sC])
  refine wpAnyH_ready (rs := [12]) (by kernel_rfl) (by simp) ?_
  refine AllReadyH.cons (by simp only [gA, gB, gC]; rfl) (fun K hK => ?_) AllReadyH.nil
  go_simp
  go_at_call 64
  refine (needB_ok 33 w2).mono ?_
  rintro e w3 ⟨rfl, hb⟩
  have hS3 := Below.then hS2 hb
  clear hb
  refine hK.out _ _ (by exact hS3) ?_
  clear hHeld hK
  intro hHeld
  (try simp only [Act.put, sA, sB, sC])
  refine wpAnyH_done (by kernel_rfl) ?_ _
  have hX3 := hX2.keep hS3
  have hr3 := stab_blk _ _ _ _ hr2 hS3
  have hg3 := stab_blk _ _ _ _ hg2 hS3
  have hB3 := Below.then hBB hS3
  have hrow3 := hrow2.below wd_okC.len hS3
  have hl5 := hS3.size
  clear hX2 hr2 hg2 hBB hrow2 hS0 hS1 hS2 hS3 ka kx z2
  go_upto_region 3 with fail
  have hdr := (Below.refl w3.heap.size w3).drew
  have hS : SF bx bg w.heap.size c v (memI bm :: r) X w3.drew := ⟨hX3.keep hdr, stab_blk _ _ _ _ hg3 hdr, stab_blk _ _ _ _ hr3 hdr⟩
  have hB := Below.then hB3 hdr
  have hrow := hrow3.below wd_okC.len hdr
  clear hX3 hr3 hg3 hB3 hrow3 hdr
  by_cases c5 : inG g c.off
  rotate_left
  · have hEE : Aside (E = 35) := by
      show _ = _
      rw [hE2.out, if_pos c5]
    clear hE2 kw1
    refine wp_region_held_drew (S := (SF bx bg w.heap.size c v (memI bm :: r) X)) (by kernel_rfl) (by exact hS) ?_
    intro hHeld
    generalize w3.drew = w0 at *
    refine wpAnyH_take (i := 0) (v := _) (by simp only [gA, gB, gC]; rfl) (by kernel_rfl) (by kernel_rfl) (by kernel_rfl) (by exact fun _ _ _ h => h) (yields_row (by rfl) _ rfl bg rfl X (fun _ s => s.g.range) hundC rfl hszX) (by assumption) ?_; (try simp only [Act.put, sA, sB, sC])
    refine wpAnyH_take (i := 1) (v := ?_) (by simp only [gA, gB, gC]; rfl) (by kernel_rfl) (by kernel_rfl) (by kernel_rfl) (by exact fun _ _ _ h => h) (Or.inl ⟨by rfl, ?_⟩) (by assumption) ?_; rotate_left; (focus (intro w hSw; (try dsimp only at hSw); go_simp; try with_reducible rfl)); (try simp only [Act.put, sA, sB, sC])
    refine wpAnyH_take (i := 2) (v := ?_) (by simp only [gA, gB, gC]; rfl) (by kernel_rfl) (by kernel_rfl) (by kernel_rfl) (by exact fun _ _ _ h => h) (Or.inl ⟨by rfl, ?_⟩) (by assumption) ?_; rotate_left; (focus (intro w hSw; (try dsimp only at hSw); go_simp; try with_reducible rfl)); (try simp only [Act.put, sA, sB, sC])
    refine wpAnyH_take (i := 3) (v := ?_) (by simp only [gA, gB, gC]; rfl) (by kernel_rfl) (by kernel_rfl) (by kernel_rfl) (by exact fun _ _ _ h => h) (Or.inl ⟨by rfl, ?_⟩) (by assumption) ?_; rotate_left; (focus (intro w hSw; (try dsimp only at hSw); go_simp; try with_reducible rfl)); (try simp only [Act.put, sA, sB, sC])
    refine wpAnyH_take (i := 4) (v := ?_) (by simp only [gA, gB, gC]; rfl) (by kernel_rfl) (by kernel_rfl) (by kernel_rfl) (by exact fun _ _ _ h => h) (Or.inl ⟨by rfl, ?_⟩) (by assumption) ?_; rotate_left; (focus (intro w hSw; (try dsimp only at hSw); go_simp; try with_reducible rfl)); (try simp only [Act.put, sA, sB, sC])
    refine wpAnyH_take (i := 5) (v := _) (by simp only [gA, gB, gC]; rfl) (by kernel_rfl) (by kernel_rfl) (by kernel_rfl) (by exact fun _ _ _ h => h) (yields_cellI (by rfl) _ rfl ⟨bx, 1, none⟩ rfl (.int .i64 c.off) (fun _ s => s.x.off) intI_load) (by assumption) ?_; (try simp only [Act.put, sA, sB, sC])
    refine wpAnyH_ready (rs := [6, 11]) (by kernel_rfl) (by simp) ?_
    refine AllReadyH.cons (by simp only [gA, gB, gC]; rfl) (fun K hK => ?_) ?_
    · go_simp
      go_at_call 68
      refine (kw0 w0 c5).mono ?_
      rintro e w1 ⟨rfl, hb⟩
      exact (show _ ∧ _ from ⟨rfl, .inl ⟨by rw [hEE.out]; decide, by rw [hEE.out], Below.then hB hb⟩⟩)
    refine AllReadyH.cons (by simp only [gA, gB, gC]; rfl) (fun K hK => ?_) AllReadyH.nil
    have hbA := alloc_below w0 (.cells (ins3 ⟨0, 0, 0⟩).toArray 64)
    refine step_allocC (z := #[.int .i64 0, .int .i64 0, .int .i64 0]) rfl rfl (fun _ => rfl) ?_
    (try simp only [Act.put, sA, sB, sC])
    refine hK.out _ _ (hS.keep hbA) ?_
    clear hHeld hK
    intro hHeld
    have hi := blkl_alloc w0 (ins3 ⟨0, 0, 0⟩).toArray 64
    replace hi : BlkL w0.heap.size (ins3 ⟨0, 0, 0⟩) (w0.alloc (.cells #[.int .i64 0, .int .i64 0, .int .i64 0] 64)) := hi
    replace hbA : Below w0.heap.size w0 (w0.alloc (.cells #[.int .i64 0, .int .i64 0, .int .i64 0] 64)) := hbA
    have hgi : w.heap.size ≤ w0.heap.size ∧ bg < w0.heap.size ∧ bx < w0.heap.size ∧ w.heap.size < w0.heap.size := ⟨hB.size, hS.g.2, hS.x.lt, hS.r.2⟩
    replace hS := hS.keep hbA
    replace hB := Below.then hB hbA
    replace hrow := hrow.below wd_okC.len hbA
    clear hbA
    generalize w0.alloc (.cells #[.int .i64 0, .int .i64 0, .int .i64 0] 64) = w1 at *
    generalize w0.heap.size = gi at *
    (try simp only [Act.put, sA, sB, sC])
    refine wpAnyH_ready (rs := [6]) (by kernel_rfl) (by simp) ?_
    refine AllReadyH.cons (by simp only [gA, gB, gC]; rfl) (fun K hK => ?_) AllReadyH.nil
    go_simp
    go_at_call 68
    refine (kw0 w1 c5).mono ?_
    rintro e w2 ⟨rfl, hb⟩
    exact (show _ ∧ _ from ⟨rfl, .inl ⟨by rw [hEE.out]; decide, by rw [hEE.out], Below.then hB hb⟩⟩)
  have hE3 : Aside (E = if decE (wAt g c.off) ≠ 0 then 36 else 0) := by
    show _ = _
    rw [hE2.out, if_neg (by simpa using c5)]
  have hfit := wAt_fit hgok c.off
  have ho1 : IntKind.i64.wrap (c.off + 1) = c.off + 1 := by
    have h1 := c5.1
    have h2 := c5.2
    have h3 := hgok.len
    rw [IntKind.wrap_i64]; omega
  have kd := fun (W : World) => idecode_any (wAt g c.off) hfit W
  clear hE2 kw0 hgok hfit
  obtain ⟨wd, hwd⟩ : ∃ wd, wAt g c.off = wd := ⟨_, rfl⟩
  rw [hwd] at kw1 kd hE3
  replace hwd : Aside (wAt g c.off = wd) := hwd
  refine wp_region_held_drew (S := (SF bx bg w.heap.size c v (memI bm :: r) X)) (by kernel_rfl) (by exact hS) ?_
  intro hHeld
  generalize w3.drew = w0 at *
  refine wpAnyH_take (i := 0) (v := _) (by simp only [gA, gB, gC]; rfl) (by kernel_rfl) (by kernel_rfl) (by kernel_rfl) (by exact fun _ _ _ h => h) (yields_row (by rfl) _ rfl bg rfl X (fun _ s => s.g.range) hundC rfl hszX) (by assumption) ?_; (try simp only [Act.put, sA, sB, sC])
  refine wpAnyH_take (i := 1) (v := ?_) (by simp only [gA, gB, gC]; rfl) (by kernel_rfl) (by kernel_rfl) (by kernel_rfl) (by exact fun _ _ _ h => h) (Or.inl ⟨by rfl, ?_⟩) (by assumption) ?_; rotate_left; (focus (intro w hSw; (try dsimp only at hSw); go_simp; try with_reducible rfl)); (try simp only [Act.put, sA, sB, sC])
  refine wpAnyH_take (i := 2) (v := ?_) (by simp only [gA, gB, gC]; rfl) (by kernel_rfl) (by kernel_rfl) (by kernel_rfl) (by exact fun _ _ _ h => h) (Or.inl ⟨by rfl, ?_⟩) (by assumption) ?_; rotate_left; (focus (intro w hSw; (try dsimp only at hSw); go_simp; try with_reducible rfl)); (try simp only [Act.put, sA, sB, sC])
  refine wpAnyH_take (i := 3) (v := ?_) (by simp only [gA, gB, gC]; rfl) (by kernel_rfl) (by kernel_rfl) (by kernel_rfl) (by exact fun _ _ _ h => h) (Or.inl ⟨by rfl, ?_⟩) (by assumption) ?_; rotate_left; (focus (intro w hSw; (try dsimp only at hSw); go_simp; try with_reducible rfl)); (try simp only [Act.put, sA, sB, sC])
  refine wpAnyH_take (i := 4) (v := ?_) (by simp only [gA, gB, gC]; rfl) (by kernel_rfl) (by kernel_rfl) (by kernel_rfl) (by exact fun _ _ _ h => h) (Or.inl ⟨by rfl, ?_⟩) (by assumption) ?_; rotate_left; (focus (intro w hSw; (try dsimp only at hSw); go_simp; try with_reducible rfl)); (try simp only [Act.put, sA, sB, sC])
  refine wpAnyH_take (i := 5) (v := _) (by simp only [gA, gB, gC]; rfl) (by kernel_rfl) (by kernel_rfl) (by kernel_rfl) (by exact fun _ _ _ h => h) (yields_cellI (by rfl) _ rfl ⟨bx, 1, none⟩ rfl (.int .i64 c.off) (fun _ s => s.x.off) intI_load) (by assumption) ?_; (try simp only [Act.put, sA, sB, sC])
  refine wpAnyH_ready (rs := [6, 11]) (by kernel_rfl) (by simp) ?_
  refine AllReadyH.cons (by simp only [gA, gB, gC]; rfl) (fun K hK => ?_) ?_
  · go_simp
    go_at_call 68
    refine (kw1 w0 c5 hrow).mono ?_
    rintro e w1 ⟨rfl, hb⟩
    replace hS := hS.keep hb
    replace hB := Below.then hB hb
    replace hrow := hrow.below wd_okC.len hb
    clear hb
    refine hK.out _ _ (hS) ?_
    clear hHeld hK
    intro hHeld
    (try simp only [Act.put, sA, sB, sC])
    refine wpAnyH_ready (rs := [7, 11]) (by kernel_rfl) (by simp) ?_
    refine AllReadyH.cons (by simp only [gA, gB, gC]; rfl) (fun K hK => ?_) ?_
    · go_simp
      go_at_call 67
      refine (kd w1).mono ?_
      rintro e w2 ⟨rfl, hb⟩
      replace hS := hS.keep hb
      replace hB := Below.then hB hb
      replace hrow := hrow.below wd_okC.len hb
      clear hb
      refine hK.out _ _ (hS) ?_
      clear hHeld hK
      intro hHeld
      (try simp only [Act.put, sA, sB, sC])
      refine wpAnyH_take (i := 8) (v := ?_) (by simp only [gA, gB, gC]; rfl) (by kernel_rfl) (by kernel_rfl) (by kernel_rfl) (by exact fun _ _ _ h => h) (Or.inl ⟨by rfl, ?_⟩) (by assumption) ?_; rotate_left; (focus (intro w hSw; (try dsimp only at hSw); go_simp; try with_reducible rfl)); (try simp only [Act.put, sA, sB, sC])
      refine wpAnyH_take (i := 9) (v := ?_) (by simp only [gA, gB, gC]; rfl) (by kernel_rfl) (by kernel_rfl) (by kernel_rfl) (by exact fun _ _ _ h => h) (Or.inl ⟨by rfl, ?_⟩) (by assumption) ?_; rotate_left; (focus (intro w hSw; (try dsimp only at hSw); go_simp; try with_reducible rfl)); (try simp only [Act.put, sA, sB, sC])
      refine wpAnyH_take (i := 10) (v := ?_) (by simp only [gA, gB, gC]; rfl) (by kernel_rfl) (by kernel_rfl) (by kernel_rfl) (by exact fun _ _ _ h => h) (Or.inl ⟨by rfl, ?_⟩) (by assumption) ?_; rotate_left; (focus (intro w hSw; (try dsimp only at hSw); go_simp; try with_reducible rfl)); (try simp only [Act.put, sA, sB, sC])
      refine wpAnyH_ready (rs := [11]) (by kernel_rfl) (by simp) ?_
      refine AllReadyH.cons (by simp only [gA, gB, gC]; rfl) (fun K hK => ?_) AllReadyH.nil
      have hbA := alloc_below w2 (.cells (ins3 ⟨0, 0, 0⟩).toArray 64)
      refine step_allocC (z := #[.int .i64 0, .int .i64 0, .int .i64 0]) rfl rfl (fun _ => rfl) ?_
      (try simp only [Act.put, sA, sB, sC])
      refine hK.out _ _ (hS.keep hbA) ?_
      clear hHeld hK
      intro hHeld
      have hi := blkl_alloc w2 (ins3 ⟨0, 0, 0⟩).toArray 64
      replace hi : BlkL w2.heap.size (ins3 ⟨0, 0, 0⟩) (w2.alloc (.cells #[.int .i64 0, .int .i64 0, .int .i64 0] 64)) := hi
      replace hbA : Below w2.heap.size w2 (w2.alloc (.cells #[.int .i64 0, .int .i64 0, .int .i64 0] 64)) := hbA
      have hgi : w.heap.size ≤ w2.heap.size ∧ bg < w2.heap.size ∧ bx < w2.heap.size ∧ w.heap.size < w2.heap.size := ⟨hB.size, hS.g.2, hS.x.lt, hS.r.2⟩
      replace hS := hS.keep hbA
      replace hB := Below.then hB hbA
      replace hrow := hrow.below wd_okC.len hbA
      clear hbA
      generalize w2.alloc (.cells #[.int .i64 0, .int .i64 0, .int .i64 0] 64) = w3 at *
      generalize w2.heap.size = gi at *
      (try simp only [Act.put, sA, sB, sC])
      refine wpAnyH_ready (rs := [12]) (by kernel_rfl) (by simp) ?_
      refine AllReadyH.cons (by simp only [gA, gB, gC]; rfl) (fun K hK => ?_) AllReadyH.nil
      obtain ⟨W7, hW7, hth7, hb7, hk7⟩ := put_box hi (decI wd)
      have hB7 := hk7 _ _ hgi.1 hB
      have hfar : ∀ j, j ≠ gi → W7.heap[j]? = w3.heap[j]? := fun j hj => by rw [← hW7]; exact heap_setCells_other hj _ _ _
      have hs7 : w3.heap.size ≤ W7.heap.size := (hk7 0 w3 (Nat.zero_le _) (Below.refl _ _)).size
      have hS7 : SF bx bg w.heap.size c v (memI bm :: r) X W7 := ⟨hS.x.same (hfar _ (by omega)) hs7, ⟨hS.g.1.same (hfar _ (by omega)), Nat.lt_of_lt_of_le hS.g.2 hs7⟩, ⟨hS.r.1.same (hfar _ (by omega)), Nat.lt_of_lt_of_le hS.r.2 hs7⟩⟩
      refine step_store_rowC rfl _ _ rfl gi rfl (ins3 (decI wd)) rfl hth7 hszI (ins3_one _) hW7 ?_
      (try simp only [Act.put, sA, sB, sC])
      refine hK.out _ _ (hS7) ?_
      clear hHeld hK
      intro hHeld
      clear hS hB hrow hi hk7 hfar hs7 kw1 kd hW7 hth7
      have hD : Aside (wAt g c.off = wd) := hwd
      (try simp only [Act.put, sA, sB, sC])
      refine wpAnyH_take (i := 13) (v := ?_) (by simp only [gA, gB, gC]; rfl) (by kernel_rfl) (by kernel_rfl) (by kernel_rfl) (by exact fun _ _ _ h => h) (Or.inl ⟨by rfl, ?_⟩) (by assumption) ?_; rotate_left; (focus (intro w hSw; (try dsimp only at hSw); go_simp; try with_reducible rfl)); (try simp only [Act.put, sA, sB, sC])
      refine wpAnyH_done (by kernel_rfl) ?_ _
      go_upto_region 4 with fail
      by_cases c6 : decE wd = 0
      rotate_left
      · have hEE : Aside (E = 36) := by
          show _ = _
          rw [hE3.out, if_pos c6]
        have q : (decE wd == 0) = false := by simpa using c6
        generalize decE wd = ee at *
        clear hE3 c6
        go_wp2_with fail
        refine (need_no 36 W7).mono ?_
        rintro e W8 ⟨rfl, rfl⟩
        go_wp2_with fail
        exact diedC (.inl ⟨by rw [hEE.out]; decide, by rw [hEE.out], hB7⟩)
      have hEE : Aside (E = 0) := by
        show _ = _
        rw [hE3.out, if_neg (by simpa using c6)]
      have q : (decE wd == 0) = true := by simpa using c6
      generalize decE wd = ee at *
      clear hE3 c6
      go_wp2_with fail
      refine (need_ok 36 W7).mono ?_
      rintro e W8 ⟨rfl, rfl⟩
      go_upto_region 5 with fail
      have y1 := hS7.x.off
      have yf := hS7.x.free (i := 1) (by decide)
      have hX8 := hS7.x.setOff (c.off + 1)
      have hi8 := far_blk hb7 (show bx ≠ gi by omega) 1 (.int .i64 (c.off + 1))
      have hr8 := far_blk hS7.r (show bx ≠ w.heap.size by omega) 1 (.int .i64 (c.off + 1))
      have hO8 := (Sole.of (bx := bx) hB7).set 1 (.int .i64 (c.off + 1))
      clear hS7 hb7
      go_upto_region 6 with fail
      generalize W8.setCell ⟨bx, 1, none⟩ (.int .i64 (c.off + 1)) = W9 at *
      obtain ⟨D, hDD⟩ : ∃ D, decI wd = D := ⟨_, rfl⟩
      rw [hDD] at hi8 ⊢
      replace hDD : Aside (decI wd = D) := hDD
      obtain ⟨WA, hWA, hthA, hbA, hkA⟩ := put_box hr8 D
      have hrA := hbA.range
      have hri := hi8.range
      have hXA : XAt bx { c with off := c.off + 1 } v (memI bm :: r) WA := hX8.same (by rw [← hWA]; exact heap_setCells_other (by omega) _ _ _) (hkA 0 W9 (Nat.zero_le _) (Below.refl _ _)).size
      have hOA : Sole bx w WA := by rw [← hWA]; exact hO8.cells (.inr (Nat.le_refl _)) _ _
      clear hX8 hr8 hbA hkA hO8 y1 yf
      go_wp2_with (first | (refine wpList_load_row rfl _ rfl gi rfl (ins3 D) hri hundI rfl hszI ?_) | (refine wpList_store_row rfl _ _ rfl w.heap.size rfl (ins3 D) rfl hthA hszI (ins3_one _) hWA ?_) | fail)
      refine bodyPost_ret (v := .agg (ins3 D).toArray) (results_row1 rfl _ _ w.heap.size rfl (ins3 D) hrA hundI rfl hszI) rfl ?_
      exact .inr ⟨hEE.out, by rw [hD.out, hDD.out], hXA, hOA⟩
    refine AllReadyH.cons (by simp only [gA, gB, gC]; rfl) (fun K hK => ?_) AllReadyH.nil
    have hbA := alloc_below w1 (.cells (ins3 ⟨0, 0, 0⟩).toArray 64)
    refine step_allocC (z := #[.int .i64 0, .int .i64 0, .int .i64 0]) rfl rfl (fun _ => rfl) ?_
    (try simp only [Act.put, sA, sB, sC])
    refine hK.out _ _ (hS.keep hbA) ?_
    clear hHeld hK
    intro hHeld
    have hi := blkl_alloc w1 (ins3 ⟨0, 0, 0⟩).toArray 64
    replace hi : BlkL w1.heap.size (ins3 ⟨0, 0, 0⟩) (w1.alloc (.cells #[.int .i64 0, .int .i64 0, .int .i64 0] 64)) := hi
    replace hbA : Below w1.heap.size w1 (w1.alloc (.cells #[.int .i64 0, .int .i64 0, .int .i64 0] 64)) := hbA
    have hgi : w.heap.size ≤ w1.heap.size ∧ bg < w1.heap.size ∧ bx < w1.heap.size ∧ w.heap.size < w1.heap.size := ⟨hB.size, hS.g.2, hS.x.lt, hS.r.2⟩
    replace hS := hS.keep hbA
    replace hB := Below.then hB hbA
    replace hrow := hrow.below wd_okC.len hbA
    clear hbA
    generalize w1.alloc (.cells #[.int .i64 0, .int .i64 0, .int .i64 0] 64) = w2 at *
    generalize w1.heap.size = gi at *
    (try simp only [Act.put, sA, sB, sC])
    refine wpAnyH_ready (rs := [7]) (by kernel_rfl) (by simp) ?_
    refine AllReadyH.cons (by simp only [gA, gB, gC]; rfl) (fun K hK => ?_) AllReadyH.nil
    go_simp
    go_at_call 67
    refine (kd w2).mono ?_
    rintro e w3 ⟨rfl, hb⟩
    replace hS := hS.keep hb
    replace hB := Below.then hB hb
    replace hrow := hrow.below wd_okC.len hb
    replace hi := stab_blk _ _ _ _ hi hb
    clear hb
    refine hK.out _ _ (hS) ?_
    clear hHeld hK
    intro hHeld
    (try simp only [Act.put, sA, sB, sC])
    refine wpAnyH_take (i := 8) (v := ?_) (by simp only [gA, gB, gC]; rfl) (by kernel_rfl) (by kernel_rfl) (by kernel_rfl) (by exact fun _ _ _ h => h) (Or.inl ⟨by rfl, ?_⟩) (by assumption) ?_; rotate_left; (focus (intro w hSw; (try dsimp only at hSw); go_simp; try with_reducible rfl)); (try simp only [Act.put, sA, sB, sC])
    refine wpAnyH_take (i := 9) (v := ?_) (by simp only [gA, gB, gC]; rfl) (by kernel_rfl) (by kernel_rfl) (by kernel_rfl) (by exact fun _ _ _ h => h) (Or.inl ⟨by rfl, ?_⟩) (by assumption) ?_; rotate_left; (focus (intro w hSw; (try dsimp only at hSw); go_simp; try with_reducible rfl)); (try simp only [Act.put, sA, sB, sC])
    refine wpAnyH_take (i := 10) (v := ?_) (by simp only [gA, gB, gC]; rfl) (by kernel_rfl) (by kernel_rfl) (by kernel_rfl) (by exact fun _ _ _ h => h) (Or.inl ⟨by rfl, ?_⟩) (by assumption) ?_; rotate_left; (focus (intro w hSw; (try dsimp only at hSw); go_simp; try with_reducible rfl)); (try simp only [Act.put, sA, sB, sC])
    refine wpAnyH_ready (rs := [12]) (by kernel_rfl) (by simp) ?_
    refine AllReadyH.cons (by simp only [gA, gB, gC]; rfl) (fun K hK => ?_) AllReadyH.nil
    obtain ⟨W7, hW7, hth7, hb7, hk7⟩ := put_box hi (decI wd)
    have hB7 := hk7 _ _ hgi.1 hB
    have hfar : ∀ j, j ≠ gi → W7.heap[j]? = w3.heap[j]? := fun j hj => by rw [← hW7]; exact heap_setCells_other hj _ _ _
    have hs7 : w3.heap.size ≤ W7.heap.size := (hk7 0 w3 (Nat.zero_le _) (Below.refl _ _)).size
    have hS7 : SF bx bg w.heap.size c v (memI bm :: r) X W7 := ⟨hS.x.same (hfar _ (by omega)) hs7, ⟨hS.g.1.same (hfar _ (by omega)), Nat.lt_of_lt_of_le hS.g.2 hs7⟩, ⟨hS.r.1.same (hfar _ (by omega)), Nat.lt_of_lt_of_le hS.r.2 hs7⟩⟩
    refine step_store_rowC rfl _ _ rfl gi rfl (ins3 (decI wd)) rfl hth7 hszI (ins3_one _) hW7 ?_
    (try simp only [Act.put, sA, sB, sC])
    refine hK.out _ _ (hS7) ?_
    clear hHeld hK
    intro hHeld
    clear hS hB hrow hi hk7 hfar hs7 kw1 kd hW7 hth7
    have hD : Aside (wAt g c.off = wd) := hwd
    (try simp only [Act.put, sA, sB, sC])
    refine wpAnyH_take (i := 13) (v := ?_) (by simp only [gA, gB, gC]; rfl) (by kernel_rfl) (by kernel_rfl) (by kernel_rfl) (by exact fun _ _ _ h => h) (Or.inl ⟨by rfl, ?_⟩) (by assumption) ?_; rotate_left; (focus (intro w hSw; (try dsimp only at hSw); go_simp; try with_reducible rfl)); (try simp only [Act.put, sA, sB, sC])
    refine wpAnyH_done (by kernel_rfl) ?_ _
    go_upto_region 4 with fail
    by_cases c6 : decE wd = 0
    rotate_left
    · have hEE : Aside (E = 36) := by
        show _ = _
        rw [hE3.out, if_pos c6]
      have q : (decE wd == 0) = false := by simpa using c6
      generalize decE wd = ee at *
      clear hE3 c6
      go_wp2_with fail
      refine (need_no 36 W7).mono ?_
      rintro e W8 ⟨rfl, rfl⟩
      go_wp2_with fail
      exact diedC (.inl ⟨by rw [hEE.out]; decide, by rw [hEE.out], hB7⟩)
    have hEE : Aside (E = 0) := by
      show _ = _
      rw [hE3.out, if_neg (by simpa using c6)]
    have q : (decE wd == 0) = true := by simpa using c6
    generalize decE wd = ee at *
    clear hE3 c6
    go_wp2_with fail
    refine (need_ok 36 W7).mono ?_
    rintro e W8 ⟨rfl, rfl⟩
    go_upto_region 5 with fail
    have y1 := hS7.x.off
    have yf := hS7.x.free (i := 1) (by decide)
    have hX8 := hS7.x.setOff (c.off + 1)
    have hi8 := far_blk hb7 (show bx ≠ gi by omega) 1 (.int .i64 (c.off + 1))
    have hr8 := far_blk hS7.r (show bx ≠ w.heap.size by omega) 1 (.int .i64 (c.off + 1))
    have hO8 := (Sole.of (bx := bx) hB7).set 1 (.int .i64 (c.off + 1))
    clear hS7 hb7
    go_upto_region 6 with fail
    generalize W8.setCell ⟨bx, 1, none⟩ (.int .i64 (c.off + 1)) = W9 at *
    obtain ⟨D, hDD⟩ : ∃ D, decI wd = D := ⟨_, rfl⟩
    rw [hDD] at hi8 ⊢
    replace hDD : Aside (decI wd = D) := hDD
    obtain ⟨WA, hWA, hthA, hbA, hkA⟩ := put_box hr8 D
    have hrA := hbA.range
    have hri := hi8.range
    have hXA : XAt bx { c with off := c.off + 1 } v (memI bm :: r) WA := hX8.same (by rw [← hWA]; exact heap_setCells_other (by omega) _ _ _) (hkA 0 W9 (Nat.zero_le _) (Below.refl _ _)).size
    have hOA : Sole bx w WA := by rw [← hWA]; exact hO8.cells (.inr (Nat.le_refl _)) _ _
    clear hX8 hr8 hbA hkA hO8 y1 yf
    go_wp2_with (first | (refine wpList_load_row rfl _ rfl gi rfl (ins3 D) hri hundI rfl hszI ?_) | (refine wpList_store_row rfl _ _ rfl w.heap.size rfl (ins3 D) rfl hthA hszI (ins3_one _) hWA ?_) | fail)
    refine bodyPost_ret (v := .agg (ins3 D).toArray) (results_row1 rfl _ _ w.heap.size rfl (ins3 D) hrA hundI rfl hszI) rfl ?_
    exact .inr ⟨hEE.out, by rw [hD.out, hDD.out], hXA, hOA⟩
  refine AllReadyH.cons (by simp only [gA, gB, gC]; rfl) (fun K hK => ?_) AllReadyH.nil
  have hbA := alloc_below w0 (.cells (ins3 ⟨0, 0, 0⟩).toArray 64)
  refine step_allocC (z := #[.int .i64 0, .int .i64 0, .int .i64 0]) rfl rfl (fun _ => rfl) ?_
  (try simp only [Act.put, sA, sB, sC])
  refine hK.out _ _ (hS.keep hbA) ?_
  clear hHeld hK
  intro hHeld
  have hi := blkl_alloc w0 (ins3 ⟨0, 0, 0⟩).toArray 64
  replace hi : BlkL w0.heap.size (ins3 ⟨0, 0, 0⟩) (w0.alloc (.cells #[.int .i64 0, .int .i64 0, .int .i64 0] 64)) := hi
  replace hbA : Below w0.heap.size w0 (w0.alloc (.cells #[.int .i64 0, .int .i64 0, .int .i64 0] 64)) := hbA
  have hgi : w.heap.size ≤ w0.heap.size ∧ bg < w0.heap.size ∧ bx < w0.heap.size ∧ w.heap.size < w0.heap.size := ⟨hB.size, hS.g.2, hS.x.lt, hS.r.2⟩
  replace hS := hS.keep hbA
  replace hB := Below.then hB hbA
  replace hrow := hrow.below wd_okC.len hbA
  clear hbA
  generalize w0.alloc (.cells #[.int .i64 0, .int .i64 0, .int .i64 0] 64) = w1 at *
  generalize w0.heap.size = gi at *
  (try simp only [Act.put, sA, sB, sC])
  refine wpAnyH_ready (rs := [6]) (by kernel_rfl) (by simp) ?_
  refine AllReadyH.cons (by simp only [gA, gB, gC]; rfl) (fun K hK => ?_) AllReadyH.nil
  go_simp
  go_at_call 68
  refine (kw1 w1 c5 hrow).mono ?_
  rintro e w2 ⟨rfl, hb⟩
  replace hS := hS.keep hb
  replace hB := Below.then hB hb
  replace hrow := hrow.below wd_okC.len hb
  replace hi := stab_blk _ _ _ _ hi hb
  clear hb
  refine hK.out _ _ (hS) ?_
  clear hHeld hK
  intro hHeld
  (try simp only [Act.put, sA, sB, sC])
  refine wpAnyH_ready (rs := [7]) (by kernel_rfl) (by simp) ?_
  refine AllReadyH.cons (by simp only [gA, gB, gC]; rfl) (fun K hK => ?_) AllReadyH.nil
  go_simp
  go_at_call 67
  refine (kd w2).mono ?_
  rintro e w3 ⟨rfl, hb⟩
  replace hS := hS.keep hb
  replace hB := Below.then hB hb
  replace hrow := hrow.below wd_okC.len hb
  replace hi := stab_blk _ _ _ _ hi hb
  clear hb
  refine hK.out _ _ (hS) ?_
  clear hHeld hK
  intro hHeld
  (try simp only [Act.put, sA, sB, sC])
  refine wpAnyH_take (i := 8) (v := ?_) (by simp only [gA, gB, gC]; rfl) (by kernel_rfl) (by kernel_rfl) (by kernel_rfl) (by exact fun _ _ _ h => h) (Or.inl ⟨by rfl, ?_⟩) (by assumption) ?_; rotate_left; (focus (intro w hSw; (try dsimp only at hSw); go_simp; try with_reducible rfl)); (try simp only [Act.put, sA, sB, sC])
  refine wpAnyH_take (i := 9) (v := ?_) (by simp only [gA, gB, gC]; rfl) (by kernel_rfl) (by kernel_rfl) (by kernel_rfl) (by exact fun _ _ _ h => h) (Or.inl ⟨by rfl, ?_⟩) (by assumption) ?_; rotate_left; (focus (intro w hSw; (try dsimp only at hSw); go_simp; try with_reducible rfl)); (try simp only [Act.put, sA, sB, sC])
  refine wpAnyH_take (i := 10) (v := ?_) (by simp only [gA, gB, gC]; rfl) (by kernel_rfl) (by kernel_rfl) (by kernel_rfl) (by exact fun _ _ _ h => h) (Or.inl ⟨by rfl, ?_⟩) (by assumption) ?_; rotate_left; (focus (intro w hSw; (try dsimp only at hSw); go_simp; try with_reducible rfl)); (try simp only [Act.put, sA, sB, sC])
  refine wpAnyH_ready (rs := [12]) (by kernel_rfl) (by simp) ?_
  refine AllReadyH.cons (by simp only [gA, gB, gC]; rfl) (fun K hK => ?_) AllReadyH.nil
  obtain ⟨W7, hW7, hth7, hb7, hk7⟩ := put_box hi (decI wd)
  have hB7 := hk7 _ _ hgi.1 hB
  have hfar : ∀ j, j ≠ gi → W7.heap[j]? = w3.heap[j]? := fun j hj => by rw [← hW7]; exact heap_setCells_other hj _ _ _
  have hs7 : w3.heap.size ≤ W7.heap.size := (hk7 0 w3 (Nat.zero_le _) (Below.refl _ _)).size
  have hS7 : SF bx bg w.heap.size c v (memI bm :: r) X W7 := ⟨hS.x.same (hfar _ (by omega)) hs7, ⟨hS.g.1.same (hfar _ (by omega)), Nat.lt_of_lt_of_le hS.g.2 hs7⟩, ⟨hS.r.1.same (hfar _ (by omega)), Nat.lt_of_lt_of_le hS.r.2 hs7⟩⟩
  refine step_store_rowC rfl _ _ rfl gi rfl (ins3 (decI wd)) rfl hth7 hszI (ins3_one _) hW7 ?_
  (try simp only [Act.put, sA, sB, sC])
  refine hK.out _ _ (hS7) ?_
  clear hHeld hK
  intro hHeld
  clear hS hB hrow hi hk7 hfar hs7 kw1 kd hW7 hth7
  have hD : Aside (wAt g c.off = wd) := hwd
  (try simp only [Act.put, sA, sB, sC])
  refine wpAnyH_take (i := 13) (v := ?_) (by simp only [gA, gB, gC]; rfl) (by kernel_rfl) (by kernel_rfl) (by kernel_rfl) (by exact fun _ _ _ h => h) (Or.inl ⟨by rfl, ?_⟩) (by assumption) ?_; rotate_left; (focus (intro w hSw; (try dsimp only at hSw); go_simp; try with_reducible rfl)); (try simp only [Act.put, sA, sB, sC])
  refine wpAnyH_done (by kernel_rfl) ?_ _
  go_upto_region 4 with fail
  by_cases c6 : decE wd = 0
  rotate_left
  · have hEE : Aside (E = 36) := by
      show _ = _
      rw [hE3.out, if_pos c6]
    have q : (decE wd == 0) = false := by simpa using c6
    generalize decE wd = ee at *
    clear hE3 c6
    go_wp2_with fail
    refine (need_no 36 W7).mono ?_
    rintro e W8 ⟨rfl, rfl⟩
    go_wp2_with fail
    exact diedC (.inl ⟨by rw [hEE.out]; decide, by rw [hEE.out], hB7⟩)
  have hEE : Aside (E = 0) := by
    show _ = _
    rw [hE3.out, if_neg (by simpa using c6)]
  have q : (decE wd == 0) = true := by simpa using c6
  generalize decE wd = ee at *
  clear hE3 c6
  go_wp2_with fail
  refine (need_ok 36 W7).mono ?_
  rintro e W8 ⟨rfl, rfl⟩
  go_upto_region 5 with fail
  have y1 := hS7.x.off
  have yf := hS7.x.free (i := 1) (by decide)
  have hX8 := hS7.x.setOff (c.off + 1)
  have hi8 := far_blk hb7 (show bx ≠ gi by omega) 1 (.int .i64 (c.off + 1))
  have hr8 := far_blk hS7.r (show bx ≠ w.heap.size by omega) 1 (.int .i64 (c.off + 1))
  have hO8 := (Sole.of (bx := bx) hB7).set 1 (.int .i64 (c.off + 1))
  clear hS7 hb7
  go_upto_region 6 with fail
  generalize W8.setCell ⟨bx, 1, none⟩ (.int .i64 (c.off + 1)) = W9 at *
  obtain ⟨D, hDD⟩ : ∃ D, decI wd = D := ⟨_, rfl⟩
  rw [hDD] at hi8 ⊢
  replace hDD : Aside (decI wd = D) := hDD
  obtain ⟨WA, hWA, hthA, hbA, hkA⟩ := put_box hr8 D
  have hrA := hbA.range
  have hri := hi8.range
  have hXA : XAt bx { c with off := c.off + 1 } v (memI bm :: r) WA := hX8.same (by rw [← hWA]; exact heap_setCells_other (by omega) _ _ _) (hkA 0 W9 (Nat.zero_le _) (Below.refl _ _)).size
  have hOA : Sole bx w WA := by rw [← hWA]; exact hO8.cells (.inr (Nat.le_refl _)) _ _
  clear hX8 hr8 hbA hkA hO8 y1 yf
  go_wp2_with (first | (refine wpList_load_row rfl _ rfl gi rfl (ins3 D) hri hundI rfl hszI ?_) | (refine wpList_store_row rfl _ _ rfl w.heap.size rfl (ins3 D) rfl hthA hszI (ins3_one _) hWA ?_) | fail)
  refine bodyPost_ret (v := .agg (ins3 D).toArray) (results_row1 rfl _ _ w.heap.size rfl (ins3 D) hrA hundI rfl hszI) rfl ?_
  exact .inr ⟨hEE.out, by rw [hD.out, hDD.out], hXA, hOA⟩
end Go.Proofs.Ytinibccphecdfaa

/-! PACKAGE cpu AS IT LANDED: what turns the processor alone: reckoning, jumps, pointers, rings. Written by mk_cpufng.py. -/
namespace Go.Proofs.Ytinibccphecdfaa
open Go.RowKit
set_option maxRecDepth 8000
set_option linter.unusedSimpArgs false
set_option linter.unusedVariables false

section
variable {ops : Array Oper} {o : Oper} {a : Act} {w : World} {Q : Exit → Act → World → Prop}
theorem step_st {T : TypeId} {K : Act → World → Prop} {E : Prop} (hg : o.guard = none) (x z : Operand) (ho : o.op = .store T x z) (y : Addr) (hx : a.eval x = .pointer (some y)) (v : Value) (hz : a.eval z = v) (hst : (Instr.storeAt T (.pointer (some y)) v).run Try.prog w = .ok () (w.setCell y v)) (hK : K (a.put o.dst undef) (w.setCell y v)) :
    if Region.wanted o (yielded ops a.tmps) = true then Oper.wp Try.prog o a w K Q else E := by
  have hw : Region.wanted o (yielded ops a.tmps) = true := by simp [Region.wanted, hg]
  rw [if_pos hw]
  unfold Oper.wp
  simp [execOp, ho, hx, hz, hst, Result.andThen]
  exact hK
end
theorem int_store (w : World) (y : Addr) (u : Value) (x : Int) (hc : w.cell? y = some u) (hf : w.frozen? y = false) : (Instr.storeAt 3 (.pointer (some y)) (.int .i64 x)).run Try.prog w = .ok () (w.setCell y (.int .i64 x)) := by
  have h1 := Try.underlying3
  go_simp
theorem int64_store (w : World) (y : Addr) (u : Value) (x : Int) (hc : w.cell? y = some u) (hf : w.frozen? y = false) : (Instr.storeAt 2 (.pointer (some y)) (.int .i64 x)).run Try.prog w = .ok () (w.setCell y (.int .i64 x)) := by
  have h1 := Try.underlying2
  go_simp
set_option maxHeartbeats 2000000 in
theorem creck_any (o a b : Int) (ho : o ≠ 1) (w : World) : Calls Try.prog 54 #[.int .i64 o, .int .i64 a, .int .i64 b] w fun e w' => e = .returned (.int .i64 (arC o a b)) ∧ Below w.heap.size w w' := by
  by_cases c4 : o = 4
  · subst c4
    have k := word_Add_any a b w
    rw [show arC 4 a b = wrap64 (a + b) from rfl]
    generalize wrap64 (a + b) = x at *
    go_enter Try.func54, Try.ntmps54
    go_wp2_with fail
    refine k.mono ?_
    rintro e W' ⟨rfl, rfl⟩
    go_wp2_with fail
    go_ret
    exact ⟨rfl, Below.refl _ _⟩
  have n4 : (o == 4) = false := by simpa using c4
  by_cases c5 : o = 5
  · subst c5
    have k := word_Sub_any a b w
    rw [show arC 5 a b = wrap64 (a - b) from rfl]
    generalize wrap64 (a - b) = x at *
    go_enter Try.func54, Try.ntmps54
    go_wp2_with fail
    refine k.mono ?_
    rintro e W' ⟨rfl, rfl⟩
    go_wp2_with fail
    go_ret
    exact ⟨rfl, Below.refl _ _⟩
  have n5 : (o == 5) = false := by simpa using c5
  by_cases c6 : o = 6
  · subst c6
    have k := word_Mul_any a b w
    rw [show arC 6 a b = wrap64 (a * b) from rfl]
    generalize wrap64 (a * b) = x at *
    go_enter Try.func54, Try.ntmps54
    go_wp2_with fail
    refine k.mono ?_
    rintro e W' ⟨rfl, rfl⟩
    go_wp2_with fail
    go_ret
    exact ⟨rfl, Below.refl _ _⟩
  have n6 : (o == 6) = false := by simpa using c6
  by_cases c7 : o = 7
  · subst c7
    have k := word_FAdd_any a b w
    rw [show arC 7 a b = fop .add a b from rfl]
    generalize fop .add a b = x at *
    go_enter Try.func54, Try.ntmps54
    go_wp2_with fail
    refine k.mono ?_
    rintro e W' ⟨rfl, n, rfl⟩
    go_wp2_with fail
    go_ret
    exact ⟨rfl, below_drewN w n⟩
  have n7 : (o == 7) = false := by simpa using c7
  by_cases c8 : o = 8
  · subst c8
    have k := word_FSub_any a b w
    rw [show arC 8 a b = fop .sub a b from rfl]
    generalize fop .sub a b = x at *
    go_enter Try.func54, Try.ntmps54
    go_wp2_with fail
    refine k.mono ?_
    rintro e W' ⟨rfl, n, rfl⟩
    go_wp2_with fail
    go_ret
    exact ⟨rfl, below_drewN w n⟩
  have n8 : (o == 8) = false := by simpa using c8
  by_cases c9 : o = 9
  · subst c9
    have k := word_FMul_any a b w
    rw [show arC 9 a b = fop .mul a b from rfl]
    generalize fop .mul a b = x at *
    go_enter Try.func54, Try.ntmps54
    go_wp2_with fail
    refine k.mono ?_
    rintro e W' ⟨rfl, n, rfl⟩
    go_wp2_with fail
    go_ret
    exact ⟨rfl, below_drewN w n⟩
  have n9 : (o == 9) = false := by simpa using c9
  by_cases c10 : o = 10
  · subst c10
    have k := word_FDiv_any a b w
    rw [show arC 10 a b = fop .quo a b from rfl]
    generalize fop .quo a b = x at *
    go_enter Try.func54, Try.ntmps54
    go_wp2_with fail
    refine k.mono ?_
    rintro e W' ⟨rfl, n, rfl⟩
    go_wp2_with fail
    go_ret
    exact ⟨rfl, below_drewN w n⟩
  have n10 : (o == 10) = false := by simpa using c10
  have k := word_FLess_any a b w
  have hx : arC o a b = less a b := by unfold arC; rw [if_neg ho, if_neg c4, if_neg c5, if_neg c6, if_neg c7, if_neg c8, if_neg c9, if_neg c10]
  rw [hx]
  generalize less a b = x at *
  clear hx ho c4 c5 c6 c7 c8 c9 c10
  go_enter Try.func54, Try.ntmps54
  go_wp2_with fail
  refine k.mono ?_
  rintro e W' ⟨rfl, rfl⟩
  go_wp2_with fail
  go_ret
  exact ⟨rfl, Below.refl _ _⟩
set_option maxHeartbeats 2000000 in
theorem cfix_any (bx : Nat) (c : Cp) (v : Value) (r : List Value) (w : World) (hX : XAt bx c v r w) :
    Calls Try.prog 56 #[.pointer (some ⟨bx, 0, none⟩)] w fun e w' => (toE c.a ≠ 0 ∧ e = .panicked (thr 36) ∧ w' = w) ∨ (toE c.a = 0 ∧ (∃ q, e = .returned q) ∧ XAt bx { c with a := toV c.a } v r w' ∧ Sole bx w w') := by
  have k := word_ToInt_any c.a w
  have y3 := hX.a
  have yf := hX.free (i := 3) (by decide)
  obtain ⟨P, hP⟩ : ∃ P : Ending → World → Prop, (fun e w' => (toE c.a ≠ 0 ∧ e = .panicked (thr 36) ∧ w' = w) ∨ (toE c.a = 0 ∧ (∃ q, e = .returned q) ∧ XAt bx { c with a := toV c.a } v r w' ∧ Sole bx w w')) = P := ⟨_, rfl⟩
  rw [hP]
  replace hP : Aside ((fun e w' => (toE c.a ≠ 0 ∧ e = .panicked (thr 36) ∧ w' = w) ∨ (toE c.a = 0 ∧ (∃ q, e = .returned q) ∧ XAt bx { c with a := toV c.a } v r w' ∧ Sole bx w w')) = P) := hP
  by_cases h : toE c.a = 0
  · have hX2 := hX.setA (toV c.a)
    have hS := (Sole.of (bx := bx) (Below.refl w.heap.size w)).set 3 (.int .i64 (toV c.a))
    have hp : ∀ q, P (.returned q) (w.setCell ⟨bx, 3, none⟩ (.int .i64 (toV c.a))) := fun q => by rw [← hP.out]; exact .inr ⟨h, ⟨q, rfl⟩, hX2, hS⟩
    rw [h] at k
    clear hP hX2 hS h hX
    generalize toV c.a = x at *
    go_enter Try.func56, Try.ntmps56
    go_wp2_with fail
    refine k.mono ?_
    rintro e W1 ⟨rfl, rfl⟩
    go_wp2_with fail
    refine (need_ok 36 W1).mono ?_
    rintro e W2 ⟨rfl, rfl⟩
    go_wp2_with fail
    refine bodyPost_end (v := .tuple #[]) (by simp [results, Try.results56, go_sem]) rfl ?_
    exact hp _
  · have hp : P (.panicked (thr 36)) w := by rw [← hP.out]; exact .inl ⟨h, rfl, rfl⟩
    have q : (toE c.a == 0) = false := by simpa using h
    clear hP h hX
    generalize toE c.a = ee at *
    go_enter Try.func56, Try.ntmps56
    go_wp2_with fail
    refine k.mono ?_
    rintro e W1 ⟨rfl, rfl⟩
    go_wp2_with fail
    refine (need_no 36 W1).mono ?_
    rintro e W2 ⟨rfl, rfl⟩
    go_wp2_with fail
    exact diedC hp
set_option maxHeartbeats 2000000 in
theorem center_any (bx : Nat) (c : Cp) (v : Value) (r : List Value) (f : Fr) (w : World) (hX : XAt bx c v r w) :
    Calls Try.prog 93 #[.pointer (some ⟨bx, 0, none⟩), .agg (frc f).toArray] w fun e w' => (∃ q, e = .returned q) ∧ XAt bx { c with seg := f.s, off := f.f, ring := f.r } v r w' ∧ Sole bx w w' := by
  have hf0 := blkl_alloc w (frc f).toArray 84
  have hB0 := alloc_below w (.cells (frc f).toArray 84)
  have hX0 := hX.keep hB0
  have hbx := hX.lt
  replace hf0 : BlkL w.heap.size (frc f) (w.alloc (.cells #[.int .i64 f.s, .int .i64 f.f, .int .i64 f.r] 84)) := hf0
  replace hB0 : Below w.heap.size w (w.alloc (.cells #[.int .i64 f.s, .int .i64 f.f, .int .i64 f.r] 84)) := hB0
  replace hX0 : XAt bx c v r (w.alloc (.cells #[.int .i64 f.s, .int .i64 f.f, .int .i64 f.r] 84)) := hX0
  clear hX
  have hfe : (frc f).toArray = #[.int .i64 f.s, .int .i64 f.f, .int .i64 f.r] := rfl
  rw [hfe]
  go_enter Try.func93, Try.ntmps93
  go_upto_region 1 with fail
  generalize w.alloc (.cells #[.int .i64 f.s, .int .i64 f.f, .int .i64 f.r] 84) = Z at *
  have hdr := (Below.refl Z.heap.size Z).drew
  have hX1 := hX0.keep hdr
  have hf1 := stab_blk _ _ _ _ hf0 hdr
  have hO1 := Sole.of (bx := bx) (Below.then hB0 hdr)
  clear hdr hX0 hf0 hB0
  refine wp_region_held_drew (S := (BlkL w.heap.size (frc f))) (by kernel_rfl) (by exact hf1) ?_
  intro hHeld
  generalize Z.drew = w0 at *
  refine wpAnyH_take (i := 0) (v := ?_) (by simp only [gA, gB, gC]; rfl) (by kernel_rfl) (by kernel_rfl) (by kernel_rfl) (by exact fun _ _ _ h => h) (Or.inl ⟨by rfl, ?_⟩) (by assumption) ?_; rotate_left; (focus (intro w hSw; (try dsimp only at hSw); go_simp; try with_reducible rfl)); (try simp only [Act.put, sA, sB, sC])
  refine wpAnyH_take (i := 1) (v := ?_) (by simp only [gA, gB, gC]; rfl) (by kernel_rfl) (by kernel_rfl) (by kernel_rfl) (by exact fun _ _ _ h => h) (Or.inl ⟨by rfl, ?_⟩) (by assumption) ?_; rotate_left; (focus (intro w hSw; (try dsimp only at hSw); go_simp; try with_reducible rfl)); (try simp only [Act.put, sA, sB, sC])
  refine wpAnyH_take (i := 2) (v := ?_) (by simp only [gA, gB, gC]; rfl) (by kernel_rfl) (by kernel_rfl) (by kernel_rfl) (by exact fun _ _ _ h => h) (Or.inl ⟨by rfl, ?_⟩) (by assumption) ?_; rotate_left; (focus (intro w hSw; (try dsimp only at hSw); go_simp; try with_reducible rfl)); (try simp only [Act.put, sA, sB, sC])
  refine wpAnyH_take (i := 3) (v := ?_) (by simp only [gA, gB, gC]; rfl) (by kernel_rfl) (by kernel_rfl) (by kernel_rfl) (by exact fun _ _ _ h => h) (Or.inl ⟨by rfl, ?_⟩) (by assumption) ?_; rotate_left; (focus (intro w hSw; (try dsimp only at hSw); go_simp; try with_reducible rfl)); (try simp only [Act.put, sA, sB, sC])
  refine wpAnyH_take (i := 4) (v := _) (by simp only [gA, gB, gC]; rfl) (by kernel_rfl) (by kernel_rfl) (by kernel_rfl) (by exact fun _ _ _ h => h) (yields_cellI (by rfl) _ rfl ⟨w.heap.size, 0, none⟩ rfl (.int .i64 f.s) (fun _ s => (s.1 0 _ rfl).1) intI_load) (by assumption) ?_; (try simp only [Act.put, sA, sB, sC])
  refine wpAnyH_take (i := 5) (v := ?_) (by simp only [gA, gB, gC]; rfl) (by kernel_rfl) (by kernel_rfl) (by kernel_rfl) (by exact fun _ _ _ h => h) (Or.inl ⟨by rfl, ?_⟩) (by assumption) ?_; rotate_left; (focus (intro w hSw; (try dsimp only at hSw); go_simp; try with_reducible rfl)); (try simp only [Act.put, sA, sB, sC])
  refine wpAnyH_take (i := 6) (v := _) (by simp only [gA, gB, gC]; rfl) (by kernel_rfl) (by kernel_rfl) (by kernel_rfl) (by exact fun _ _ _ h => h) (yields_cellI (by rfl) _ rfl ⟨w.heap.size, 1, none⟩ rfl (.int .i64 f.f) (fun _ s => (s.1 1 _ rfl).1) intI_load) (by assumption) ?_; (try simp only [Act.put, sA, sB, sC])
  refine wpAnyH_take (i := 7) (v := ?_) (by simp only [gA, gB, gC]; rfl) (by kernel_rfl) (by kernel_rfl) (by kernel_rfl) (by exact fun _ _ _ h => h) (Or.inl ⟨by rfl, ?_⟩) (by assumption) ?_; rotate_left; (focus (intro w hSw; (try dsimp only at hSw); go_simp; try with_reducible rfl)); (try simp only [Act.put, sA, sB, sC])
  refine wpAnyH_take (i := 8) (v := _) (by simp only [gA, gB, gC]; rfl) (by kernel_rfl) (by kernel_rfl) (by kernel_rfl) (by exact fun _ _ _ h => h) (yields_cellI (by rfl) _ rfl ⟨w.heap.size, 2, none⟩ rfl (.int .i64 f.r) (fun _ s => (s.1 2 _ rfl).1) intI_load) (by assumption) ?_; (try simp only [Act.put, sA, sB, sC])
  refine wpAnyH_take (i := 9) (v := ?_) (by simp only [gA, gB, gC]; rfl) (by kernel_rfl) (by kernel_rfl) (by kernel_rfl) (by exact fun _ _ _ h => h) (Or.inl ⟨by rfl, ?_⟩) (by assumption) ?_; rotate_left; (focus (intro w hSw; (try dsimp only at hSw); go_simp; try with_reducible rfl)); (try simp only [Act.put, sA, sB, sC])
  refine wpAnyH_take (i := 10) (v := ?_) (by simp only [gA, gB, gC]; rfl) (by kernel_rfl) (by kernel_rfl) (by kernel_rfl) (by exact fun _ _ _ h => h) (Or.inl ⟨by rfl, ?_⟩) (by assumption) ?_; rotate_left; (focus (intro w hSw; (try dsimp only at hSw); go_simp; try with_reducible rfl)); (try simp only [Act.put, sA, sB, sC])
  refine wpAnyH_take (i := 11) (v := ?_) (by simp only [gA, gB, gC]; rfl) (by kernel_rfl) (by kernel_rfl) (by kernel_rfl) (by exact fun _ _ _ h => h) (Or.inl ⟨by rfl, ?_⟩) (by assumption) ?_; rotate_left; (focus (intro w hSw; (try dsimp only at hSw); go_simp; try with_reducible rfl)); (try simp only [Act.put, sA, sB, sC])
  refine wpAnyH_ready (rs := [12]) (by kernel_rfl) (by simp) ?_
  refine AllReadyH.cons (by simp only [gA, gB, gC]; rfl) (fun K hK => ?_) AllReadyH.nil
  have hX2 := hX1.setSeg f.s
  have hO2 := hO1.set 0 (.int .i64 f.s)
  have hf2 := far_blk hf1 (show bx ≠ w.heap.size by omega) 0 (.int .i64 f.s)
  refine step_st rfl _ _ rfl ⟨bx, 0, none⟩ rfl (.int .i64 f.s) rfl (int_store _ _ _ _ hX1.seg (hX1.free (by decide))) ?_
  (try simp only [Act.put, sA, sB, sC])
  refine hK.out _ _ (hf2) ?_
  clear hHeld hK
  intro hHeld
  (try simp only [Act.put, sA, sB, sC])
  refine wpAnyH_take (i := 13) (v := ?_) (by simp only [gA, gB, gC]; rfl) (by kernel_rfl) (by kernel_rfl) (by kernel_rfl) (by exact fun _ _ _ h => h) (Or.inl ⟨by rfl, ?_⟩) (by assumption) ?_; rotate_left; (focus (intro w hSw; (try dsimp only at hSw); go_simp; try with_reducible rfl)); (try simp only [Act.put, sA, sB, sC])
  refine wpAnyH_take (i := 14) (v := ?_) (by simp only [gA, gB, gC]; rfl) (by kernel_rfl) (by kernel_rfl) (by kernel_rfl) (by exact fun _ _ _ h => h) (Or.inl ⟨by rfl, ?_⟩) (by assumption) ?_; rotate_left; (focus (intro w hSw; (try dsimp only at hSw); go_simp; try with_reducible rfl)); (try simp only [Act.put, sA, sB, sC])
  refine wpAnyH_take (i := 15) (v := ?_) (by simp only [gA, gB, gC]; rfl) (by kernel_rfl) (by kernel_rfl) (by kernel_rfl) (by exact fun _ _ _ h => h) (Or.inl ⟨by rfl, ?_⟩) (by assumption) ?_; rotate_left; (focus (intro w hSw; (try dsimp only at hSw); go_simp; try with_reducible rfl)); (try simp only [Act.put, sA, sB, sC])
  refine wpAnyH_ready (rs := [16]) (by kernel_rfl) (by simp) ?_
  refine AllReadyH.cons (by simp only [gA, gB, gC]; rfl) (fun K hK => ?_) AllReadyH.nil
  have hX3 := hX2.setOff f.f
  have hO3 := hO2.set 1 (.int .i64 f.f)
  have hf3 := far_blk hf2 (show bx ≠ w.heap.size by omega) 1 (.int .i64 f.f)
  refine step_st rfl _ _ rfl ⟨bx, 1, none⟩ rfl (.int .i64 f.f) rfl (int_store _ _ _ _ hX2.off (hX2.free (by decide))) ?_
  (try simp only [Act.put, sA, sB, sC])
  refine hK.out _ _ (hf3) ?_
  clear hHeld hK
  intro hHeld
  (try simp only [Act.put, sA, sB, sC])
  refine wpAnyH_take (i := 17) (v := ?_) (by simp only [gA, gB, gC]; rfl) (by kernel_rfl) (by kernel_rfl) (by kernel_rfl) (by exact fun _ _ _ h => h) (Or.inl ⟨by rfl, ?_⟩) (by assumption) ?_; rotate_left; (focus (intro w hSw; (try dsimp only at hSw); go_simp; try with_reducible rfl)); (try simp only [Act.put, sA, sB, sC])
  refine wpAnyH_take (i := 18) (v := ?_) (by simp only [gA, gB, gC]; rfl) (by kernel_rfl) (by kernel_rfl) (by kernel_rfl) (by exact fun _ _ _ h => h) (Or.inl ⟨by rfl, ?_⟩) (by assumption) ?_; rotate_left; (focus (intro w hSw; (try dsimp only at hSw); go_simp; try with_reducible rfl)); (try simp only [Act.put, sA, sB, sC])
  refine wpAnyH_take (i := 19) (v := ?_) (by simp only [gA, gB, gC]; rfl) (by kernel_rfl) (by kernel_rfl) (by kernel_rfl) (by exact fun _ _ _ h => h) (Or.inl ⟨by rfl, ?_⟩) (by assumption) ?_; rotate_left; (focus (intro w hSw; (try dsimp only at hSw); go_simp; try with_reducible rfl)); (try simp only [Act.put, sA, sB, sC])
  refine wpAnyH_ready (rs := [20]) (by kernel_rfl) (by simp) ?_
  refine AllReadyH.cons (by simp only [gA, gB, gC]; rfl) (fun K hK => ?_) AllReadyH.nil
  have hX4 := hX3.setRing f.r
  have hO4 := hO3.set 2 (.int .i64 f.r)
  have hf4 := far_blk hf3 (show bx ≠ w.heap.size by omega) 2 (.int .i64 f.r)
  refine step_st rfl _ _ rfl ⟨bx, 2, none⟩ rfl (.int .i64 f.r) rfl (int_store _ _ _ _ hX3.ring (hX3.free (by decide))) ?_
  (try simp only [Act.put, sA, sB, sC])
  refine hK.out _ _ (hf4) ?_
  clear hHeld hK
  intro hHeld
  (try simp only [Act.put, sA, sB, sC])
  refine wpAnyH_done (by kernel_rfl) ?_ _
  go_wp2_with fail
  refine bodyPost_end (v := .tuple #[]) (by simp [results, Try.results93, go_sem]) rfl ?_
  exact ⟨⟨_, rfl⟩, hX4, hO4⟩
theorem xraise_step {b : Nat} {c : Cp} {v : Value} {r : List Value} {W : World} (h4 : c.ps.length = 4) (R : Int) {k : Nat} (hk : k < 4) (h : XAt b (raiseK c R k) v r W) :
    W.cell? ⟨b, 4 + k * 3 + 2, none⟩ = some (.int .i64 (c.ps.getD k ⟨0, 0, 0⟩).r) ∧ W.frozen? ⟨b, 4 + k * 3 + 2, none⟩ = false ∧ XAt b (raiseK c R (k + 1)) v r (W.setCell ⟨b, 4 + k * 3 + 2, none⟩ (.int .i64 (gmax (c.ps.getD k ⟨0, 0, 0⟩).r R))) := by
  have hidx := st_ptr (c := raiseK c R k) (v := v) (raise_len h4 R k) hk (j := 2) (by decide)
  rw [raise_ptr h4 R hk] at hidx
  have hc := h.cells (i := 4 + k * 3 + 2) (hidx.trans rfl)
  exact ⟨hc.1, hc.2, h.put (by omega) _ (raise_len h4 R (k + 1)) (raise_step h4 v R hk)⟩
set_option maxRecDepth 8000 in
set_option maxHeartbeats 2000000 in
theorem cweaken_any (bx : Nat) (c : Cp) (v : Value) (r : List Value) (R : Int) (w : World) (hX : XAt bx c v r w) :
    Calls Try.prog 94 #[.pointer (some ⟨bx, 0, none⟩), .int .i64 R] w fun e w' => (∃ q, e = .returned q) ∧ XAt bx (raiseC c R) v r w' ∧ Sole bx w w' := by
  have h4 := hX.ps
  have hE : Aside (∀ W, XAt bx (raiseK c R 4) v r W → XAt bx (raiseC c R) v r W) := by intro W h; rw [raise_four h4] at h; exact h
  rw [← raise_zero c R] at hX
  have hS := Sole.of (bx := bx) (Below.refl w.heap.size w)
  go_enter Try.func94, Try.ntmps94
  go_wp2_with fail
  go_loopw [5] (fun t5 wr => ∃ k : Nat, k ≤ 4 ∧ t5 = .int .i64 (k : Int) ∧ XAt bx (raiseK c R k) v r wr ∧ Sole bx w wr) (fun t5 _ => 4 - (Go.RowKit.intOf t5).toNat)
  case atStart => exact ⟨0, by omega, rfl, hX, hS⟩
  case round =>
  clear hX hS
  obtain ⟨k, hk, rfl, hX, hS⟩ := hrel
  by_cases hk4 : k < 4
  · have i1 : (k : Int) < 4 := by omega
    have i2 : ¬ (k : Int) < 0 := by omega
    go_upto_region 3 with fail
    have hdr := (Below.refl wr.heap.size wr).drew
    obtain ⟨hc1, hf1, hX2⟩ := xraise_step h4 R hk4 (hX.keep hdr)
    have hS2 := (hS.trans (Sole.of hdr)).set (4 + k * 3 + 2) (.int .i64 (gmax (c.ps.getD k ⟨0, 0, 0⟩).r R))
    generalize c.ps.getD k ⟨0, 0, 0⟩ = p at *
    obtain ⟨G, hG⟩ : ∃ G, gmax p.r R = G := ⟨_, rfl⟩
    rw [hG] at hX2 hS2
    have hgm : (if p.r < R then R else p.r) = G := hG
    clear hX hS hdr hG
    refine wp_region_held_drew (S := (fun _ => True)) (by kernel_rfl) (by trivial) ?_
    intro hHeld
    generalize wr.drew = w0 at *
    refine wpAnyH_take (i := 0) (v := ?_) (by simp only [gA, gB, gC]; rfl) (by kernel_rfl) (by kernel_rfl) (by kernel_rfl) (by exact fun _ _ _ h => h) (Or.inl ⟨by rfl, ?_⟩) (by assumption) ?_; rotate_left; (focus (intro w hSw; (try dsimp only at hSw); go_simp; try with_reducible rfl)); (try simp only [Act.put, sA, sB, sC])
    refine wpAnyH_take (i := 1) (v := ?_) (by simp only [gA, gB, gC]; rfl) (by kernel_rfl) (by kernel_rfl) (by kernel_rfl) (by exact fun _ _ _ h => h) (Or.inl ⟨by rfl, ?_⟩) (by assumption) ?_; rotate_left; (focus (intro w hSw; (try dsimp only at hSw); go_simp; try with_reducible rfl)); (try simp only [Act.put, sA, sB, sC])
    refine wpAnyH_take (i := 2) (v := ?_) (by simp only [gA, gB, gC]; rfl) (by kernel_rfl) (by kernel_rfl) (by kernel_rfl) (by exact fun _ _ _ h => h) (Or.inl ⟨by rfl, ?_⟩) (by assumption) ?_; rotate_left; (focus (intro w hSw; (try dsimp only at hSw); go_simp; try with_reducible rfl)); (try simp only [Act.put, sA, sB, sC])
    refine wpAnyH_take (i := 3) (v := ?_) (by simp only [gA, gB, gC]; rfl) (by kernel_rfl) (by kernel_rfl) (by kernel_rfl) (by exact fun _ _ _ h => h) (Or.inl ⟨by rfl, ?_⟩) (by assumption) ?_; rotate_left; (focus (intro w hSw; (try dsimp only at hSw); go_simp; try with_reducible rfl)); (try simp only [Act.put, sA, sB, sC])
    refine wpAnyH_take (i := 4) (v := ?_) (by simp only [gA, gB, gC]; rfl) (by kernel_rfl) (by kernel_rfl) (by kernel_rfl) (by exact fun _ _ _ h => h) (Or.inl ⟨by rfl, ?_⟩) (by assumption) ?_; rotate_left; (focus (intro w hSw; (try dsimp only at hSw); go_simp; try with_reducible rfl)); (try simp only [Act.put, sA, sB, sC])
    refine wpAnyH_take (i := 5) (v := ?_) (by simp only [gA, gB, gC]; rfl) (by kernel_rfl) (by kernel_rfl) (by kernel_rfl) (by exact fun _ _ _ h => h) (Or.inl ⟨by rfl, ?_⟩) (by assumption) ?_; rotate_left; (focus (intro w hSw; (try dsimp only at hSw); go_simp; try with_reducible rfl)); (try simp only [Act.put, sA, sB, sC])
    refine wpAnyH_take (i := 6) (v := ?_) (by simp only [gA, gB, gC]; rfl) (by kernel_rfl) (by kernel_rfl) (by kernel_rfl) (by exact fun _ _ _ h => h) (Or.inl ⟨by rfl, ?_⟩) (by assumption) ?_; rotate_left; (focus (intro w hSw; (try dsimp only at hSw); go_simp; try with_reducible rfl)); (try simp only [Act.put, sA, sB, sC])
    refine wpAnyH_take (i := 7) (v := ?_) (by simp only [gA, gB, gC]; rfl) (by kernel_rfl) (by kernel_rfl) (by kernel_rfl) (by exact fun _ _ _ h => h) (Or.inl ⟨by rfl, ?_⟩) (by assumption) ?_; rotate_left; (focus (intro w hSw; (try dsimp only at hSw); go_simp; try with_reducible rfl)); (try simp only [Act.put, sA, sB, sC])
    refine wpAnyH_take (i := 8) (v := ?_) (by simp only [gA, gB, gC]; rfl) (by kernel_rfl) (by kernel_rfl) (by kernel_rfl) (by exact fun _ _ _ h => h) (Or.inl ⟨by rfl, ?_⟩) (by assumption) ?_; rotate_left; (focus (intro w hSw; (try dsimp only at hSw); go_simp; try with_reducible rfl)); (try simp only [Act.put, sA, sB, sC])
    refine wpAnyH_take (i := 10) (v := ?_) (by simp only [gA, gB, gC]; rfl) (by kernel_rfl) (by kernel_rfl) (by kernel_rfl) (by exact fun _ _ _ h => h) (Or.inl ⟨by rfl, ?_⟩) (by assumption) ?_; rotate_left; (focus (intro w hSw; (try dsimp only at hSw); go_simp; try with_reducible rfl)); (try simp only [Act.put, sA, sB, sC])
    refine wpAnyH_take (i := 12) (v := ?_) (by simp only [gA, gB, gC]; rfl) (by kernel_rfl) (by kernel_rfl) (by kernel_rfl) (by exact fun _ _ _ h => h) (Or.inl ⟨by rfl, ?_⟩) (by assumption) ?_; rotate_left; (focus (intro w hSw; (try dsimp only at hSw); go_simp; try with_reducible rfl)); (try simp only [Act.put, sA, sB, sC])
    refine wpAnyH_take (i := 13) (v := ?_) (by simp only [gA, gB, gC]; rfl) (by kernel_rfl) (by kernel_rfl) (by kernel_rfl) (by exact fun _ _ _ h => h) (Or.inl ⟨by rfl, ?_⟩) (by assumption) ?_; rotate_left; (focus (intro w hSw; (try dsimp only at hSw); go_simp; try with_reducible rfl)); (try simp only [Act.put, sA, sB, sC])
    refine wpAnyH_take (i := 14) (v := ?_) (by simp only [gA, gB, gC]; rfl) (by kernel_rfl) (by kernel_rfl) (by kernel_rfl) (by exact fun _ _ _ h => h) (Or.inl ⟨by rfl, ?_⟩) (by assumption) ?_; rotate_left; (focus (intro w hSw; (try dsimp only at hSw); go_simp; try with_reducible rfl)); (try simp only [Act.put, sA, sB, sC])
    refine wpAnyH_ready (rs := [9]) (by kernel_rfl) (by simp) ?_
    refine AllReadyH.cons (by simp only [gA, gB, gC]; rfl) (fun K hK => ?_) AllReadyH.nil
    refine step_oneJ rfl _ rfl ⟨bx, 4 + k * 3 + 2, none⟩ rfl (.int .i64 p.r) hc1 intI_load ?_
    (try simp only [Act.put, sA, sB, sC])
    refine hK.out _ _ (trivial) ?_
    clear hHeld hK
    intro hHeld
    (try simp only [Act.put, sA, sB, sC])
    refine wpAnyH_take (i := 11) (v := ?_) (by simp only [gA, gB, gC]; rfl) (by kernel_rfl) (by kernel_rfl) (by kernel_rfl) (by exact fun _ _ _ h => h) (Or.inl ⟨by rfl, ?_⟩) (by assumption) ?_; rotate_left; (focus (intro w hSw; (try dsimp only at hSw); go_simp; try with_reducible rfl)); (try simp only [Act.put, sA, sB, sC])
    refine wpAnyH_take (i := 15) (v := ?_) (by simp only [gA, gB, gC]; rfl) (by kernel_rfl) (by kernel_rfl) (by kernel_rfl) (by exact fun _ _ _ h => h) (Or.inl ⟨by rfl, ?_⟩) (by assumption) ?_; rotate_left; (focus (intro w hSw; (try dsimp only at hSw); go_simp; try with_reducible rfl)); (try simp only [Act.put, sA, sB, sC])
    refine wpAnyH_take (i := 16) (v := ?_) (by simp only [gA, gB, gC]; rfl) (by kernel_rfl) (by kernel_rfl) (by kernel_rfl) (by exact fun _ _ _ h => h) (Or.inl ⟨by rfl, ?_⟩) (by assumption) ?_; rotate_left; (focus (intro w hSw; (try dsimp only at hSw); go_simp; try with_reducible rfl)); (try simp only [Act.put, sA, sB, sC])
    refine wpAnyH_ready (rs := [17]) (by kernel_rfl) (by simp) ?_
    refine AllReadyH.cons (by simp only [gA, gB, gC]; rfl) (fun K hK => ?_) AllReadyH.nil
    refine step_st rfl _ _ rfl ⟨bx, 4 + k * 3 + 2, none⟩ rfl (.int .i64 G) (by simp [Act.eval, hgm]) (int_store _ _ _ _ hc1 hf1) ?_
    (try simp only [Act.put, sA, sB, sC])
    refine hK.out _ _ (trivial) ?_
    clear hHeld hK
    intro hHeld
    (try simp only [Act.put, sA, sB, sC])
    refine wpAnyH_done (by kernel_rfl) ?_ _
    go_wp2_with fail
    exact ⟨⟨k + 1, by omega, by simp, hX2, hS2⟩, by simp [Go.RowKit.intOf]; omega⟩
  · obtain rfl : k = 4 := by omega
    have hX4 := hE.out wr hX
    clear hE hX
    go_wp2_with fail
    refine bodyPost_end (v := .tuple #[]) (by simp [results, Try.results94, go_sem]) rfl ?_
    exact ⟨⟨_, rfl⟩, hX4, hS⟩
end Go.Proofs.Ytinibccphecdfaa

/-! PACKAGE cpu AS IT LANDED: jumps; pointers set and loaded. Written by mk_cpufnh.py. -/
namespace Go.Proofs.Ytinibccphecdfaa
open Go.RowKit
set_option maxRecDepth 8000
set_option linter.unusedSimpArgs false
set_option linter.unusedVariables false

def jmpC (c : Cp) (i : Ins) : Cp := if i.o = 14 ∨ i.o = 15 ∧ c.a = 0 ∨ i.o = 16 ∧ c.a < 0 then { c with off := i.n } else c
set_option maxHeartbeats 4000000 in
theorem cjump_any (bx : Nat) (c : Cp) (v : Value) (r : List Value) (i : Ins) (w : World) (hX : XAt bx c v r w) :
    Calls Try.prog 57 #[.pointer (some ⟨bx, 0, none⟩), i.v] w fun e w' => (∃ q, e = .returned q) ∧ XAt bx (jmpC c i) v r w' ∧ Sole bx w w' := by
  have hi0 := blkl_alloc w (ins3 i).toArray 64
  have hB0 := alloc_below w (.cells (ins3 i).toArray 64)
  have hX0 := hX.keep hB0
  have hbx := hX.lt
  replace hi0 : BlkL w.heap.size (ins3 i) (w.alloc (.cells #[.int .i64 i.o, .int .i64 i.p, .int .i64 i.n] 64)) := hi0
  replace hB0 : Below w.heap.size w (w.alloc (.cells #[.int .i64 i.o, .int .i64 i.p, .int .i64 i.n] 64)) := hB0
  replace hX0 : XAt bx c v r (w.alloc (.cells #[.int .i64 i.o, .int .i64 i.p, .int .i64 i.n] 64)) := hX0
  have hO0 := Sole.of (bx := bx) hB0
  have x0 := (hi0.1 0 _ rfl).1
  have x2 := (hi0.1 2 _ rfl).1
  have y3 := hX0.a
  have y1 := hX0.off
  have yf := hX0.free (i := 1) (by decide)
  have hX1 := hX0.setOff i.n
  have hO1 := hO0.set 1 (.int .i64 i.n)
  obtain ⟨j, hj⟩ : ∃ j, jmpC c i = j := ⟨_, rfl⟩
  rw [hj]
  replace hj : Aside (jmpC c i = j) := hj
  clear hi0 hB0 hX
  by_cases hc : i.o = 14 ∨ i.o = 15 ∧ c.a = 0 ∨ i.o = 16 ∧ c.a < 0
  · have hjj : Aside ({ c with off := i.n } = j) := by
      show _ = _
      rw [← hj.out, jmpC, if_pos hc]
    clear hj hX0 hO0
    rcases hc with h1 | ⟨h1, h2⟩ | ⟨h1, h2⟩
    · replace h1 : Aside (i.o = 14) := h1
      go_enter Try.func57, Try.ntmps57
      go_upto_region 1 with fail
      generalize w.alloc (.cells #[.int .i64 i.o, .int .i64 i.p, .int .i64 i.n] 64) = W0 at *
      rw [h1.out] at x0
      go_wp2_with fail
      refine bodyPost_end (v := .tuple #[]) (by simp [results, Try.results57, go_sem]) rfl ?_
      exact ⟨⟨_, rfl⟩, by rw [← hjj.out]; exact hX1, hO1⟩
    · replace h1 : Aside (i.o = 15) := h1
      go_enter Try.func57, Try.ntmps57
      go_upto_region 1 with fail
      generalize w.alloc (.cells #[.int .i64 i.o, .int .i64 i.p, .int .i64 i.n] 64) = W0 at *
      rw [h1.out] at x0
      rw [h2] at y3
      go_wp2_with fail
      refine bodyPost_end (v := .tuple #[]) (by simp [results, Try.results57, go_sem]) rfl ?_
      exact ⟨⟨_, rfl⟩, by rw [← hjj.out]; exact hX1, hO1⟩
    · replace h1 : Aside (i.o = 16) := h1
      have q : ¬ (0 : Int) ≤ c.a := by omega
      go_enter Try.func57, Try.ntmps57
      go_upto_region 1 with fail
      generalize w.alloc (.cells #[.int .i64 i.o, .int .i64 i.p, .int .i64 i.n] 64) = W0 at *
      rw [h1.out] at x0
      go_wp2_with fail
      refine bodyPost_end (v := .tuple #[]) (by simp [results, Try.results57, go_sem]) rfl ?_
      exact ⟨⟨_, rfl⟩, by rw [← hjj.out]; exact hX1, hO1⟩
  · have hjj : Aside (c = j) := by
      show _ = _
      rw [← hj.out, jmpC, if_neg hc]
    clear hj hX1 hO1
    have h14 : (i.o == 14) = false := by simp; omega
    by_cases h15 : i.o = 15
    · have ha : (c.a == 0) = false := by simp; omega
      replace h15 : Aside (i.o = 15) := h15
      clear hc
      go_enter Try.func57, Try.ntmps57
      go_upto_region 1 with fail
      generalize w.alloc (.cells #[.int .i64 i.o, .int .i64 i.p, .int .i64 i.n] 64) = W0 at *
      rw [h15.out] at x0
      go_wp2_with fail
      refine bodyPost_end (v := .tuple #[]) (by simp [results, Try.results57, go_sem]) rfl ?_
      exact ⟨⟨_, rfl⟩, by rw [← hjj.out]; exact hX0, hO0⟩
    · by_cases h16 : i.o = 16
      · have ha : ¬ c.a < 0 := by omega
        have ha2 : 0 ≤ c.a := by omega
        replace h16 : Aside (i.o = 16) := h16
        clear hc
        go_enter Try.func57, Try.ntmps57
        go_upto_region 1 with fail
        generalize w.alloc (.cells #[.int .i64 i.o, .int .i64 i.p, .int .i64 i.n] 64) = W0 at *
        rw [h16.out] at x0
        go_wp2_with fail
        refine bodyPost_end (v := .tuple #[]) (by simp [results, Try.results57, go_sem]) rfl ?_
        exact ⟨⟨_, rfl⟩, by rw [← hjj.out]; exact hX0, hO0⟩
      · have q15 : (i.o == 15) = false := by simpa using h15
        have q16 : (i.o == 16) = false := by simpa using h16
        clear hc h15 h16
        go_enter Try.func57, Try.ntmps57
        go_upto_region 1 with fail
        generalize w.alloc (.cells #[.int .i64 i.o, .int .i64 i.p, .int .i64 i.n] 64) = W0 at *
        go_wp2_with fail
        refine bodyPost_end (v := .tuple #[]) (by simp [results, Try.results57, go_sem]) rfl ?_
        exact ⟨⟨_, rfl⟩, by rw [← hjj.out]; exact hX0, hO0⟩
set_option maxRecDepth 8000 in
set_option maxHeartbeats 4000000 in
theorem csetp_any (bx : Nat) (c : Cp) (v : Value) (r : List Value) (hc : c.Ok) (k : Nat) (hk : k < 4) (w : World) (hX : XAt bx c v r w) :
    Calls Try.prog 58 #[.pointer (some ⟨bx, 0, none⟩), .int .i64 (k : Int)] w fun e w' => (∃ q, e = .returned q) ∧ XAt bx { c with ps := c.ps.set k ⟨(wPtr c.a).s, (wPtr c.a).f, gmax (wPtr c.a).r c.ring⟩ } v r w' ∧ Sole bx w w' := by
  have hundP := Try.underlying24
  have hszP : (Try.prog.info? 24).map (·.size) = some 3 := by kernel_rfl
  have kd := fun (W : World) => idecp_any c.a hc.a W
  have y3 := hX.a
  have hbx := hX.lt
  generalize wPtr c.a = p at *
  have hgm : (if p.r < c.ring then c.ring else p.r) = gmax p.r c.ring := rfl
  generalize gmax p.r c.ring = G at *
  have i1 : (k : Int) < 4 := by omega
  have i2 : ¬ (k : Int) < 0 := by omega
  go_enter Try.func58, Try.ntmps58
  go_wp2_with fail
  refine (kd w).mono ?_
  rintro e W1 ⟨rfl, hb⟩
  have hp2 := blkl_alloc W1 (ptr3 p).toArray 24
  have hb2 := alloc_below W1 (.cells (ptr3 p).toArray 24)
  have hX2 := (hX.keep hb).keep hb2
  have hB2 := Below.then hb hb2
  have hlt := hb.size
  go_upto_region 1 with fail
  replace hp2 : BlkL W1.heap.size (ptr3 p) (W1.alloc (.cells #[.int .i64 p.s, .int .i64 p.f, .int .i64 p.r] 24)) := hp2
  replace hX2 : XAt bx c v r (W1.alloc (.cells #[.int .i64 p.s, .int .i64 p.f, .int .i64 p.r] 24)) := hX2
  replace hB2 : Below w.heap.size w (W1.alloc (.cells #[.int .i64 p.s, .int .i64 p.f, .int .i64 p.r] 24)) := hB2
  generalize W1.alloc (.cells #[.int .i64 p.s, .int .i64 p.f, .int .i64 p.r] 24) = Z at *
  generalize W1.heap.size = bp at *
  have hdr := (Below.refl Z.heap.size Z).drew
  have hX3 := hX2.keep hdr
  have hp3 := stab_blk _ _ _ _ hp2 hdr
  have hB3 := Below.then hB2 hdr
  clear hX hX2 hp2 hB2 hb hb2 hdr kd y3
  refine wp_region_held_drew (S := (XAt bx c v r)) (by kernel_rfl) (by exact hX3) ?_
  intro hHeld
  generalize Z.drew = w0 at *
  refine wpAnyH_take (i := 0) (v := ?_) (by simp only [gA, gB, gC]; rfl) (by kernel_rfl) (by kernel_rfl) (by kernel_rfl) (by exact fun _ _ _ h => h) (Or.inl ⟨by rfl, ?_⟩) (by assumption) ?_; rotate_left; (focus (intro w hSw; (try dsimp only at hSw); go_simp; try with_reducible rfl)); (try simp only [Act.put, sA, sB, sC])
  refine wpAnyH_take (i := 2) (v := ?_) (by simp only [gA, gB, gC]; rfl) (by kernel_rfl) (by kernel_rfl) (by kernel_rfl) (by exact fun _ _ _ h => h) (Or.inl ⟨by rfl, ?_⟩) (by assumption) ?_; rotate_left; (focus (intro w hSw; (try dsimp only at hSw); go_simp; try with_reducible rfl)); (try simp only [Act.put, sA, sB, sC])
  refine wpAnyH_take (i := 3) (v := ?_) (by simp only [gA, gB, gC]; rfl) (by kernel_rfl) (by kernel_rfl) (by kernel_rfl) (by exact fun _ _ _ h => h) (Or.inl ⟨by rfl, ?_⟩) (by assumption) ?_; rotate_left; (focus (intro w hSw; (try dsimp only at hSw); go_simp; try with_reducible rfl)); (try simp only [Act.put, sA, sB, sC])
  refine wpAnyH_take (i := 4) (v := ?_) (by simp only [gA, gB, gC]; rfl) (by kernel_rfl) (by kernel_rfl) (by kernel_rfl) (by exact fun _ _ _ h => h) (Or.inl ⟨by rfl, ?_⟩) (by assumption) ?_; rotate_left; (focus (intro w hSw; (try dsimp only at hSw); go_simp; try with_reducible rfl)); (try simp only [Act.put, sA, sB, sC])
  refine wpAnyH_take (i := 5) (v := ?_) (by simp only [gA, gB, gC]; rfl) (by kernel_rfl) (by kernel_rfl) (by kernel_rfl) (by exact fun _ _ _ h => h) (Or.inl ⟨by rfl, ?_⟩) (by assumption) ?_; rotate_left; (focus (intro w hSw; (try dsimp only at hSw); go_simp; try with_reducible rfl)); (try simp only [Act.put, sA, sB, sC])
  refine wpAnyH_take (i := 6) (v := _) (by simp only [gA, gB, gC]; rfl) (by kernel_rfl) (by kernel_rfl) (by kernel_rfl) (by exact fun _ _ _ h => h) (yields_cellI (by rfl) _ rfl ⟨bx, 2, none⟩ rfl (.int .i64 c.ring) (fun _ s => s.ring) intI_load) (by assumption) ?_; (try simp only [Act.put, sA, sB, sC])
  refine wpAnyH_ready (rs := [1]) (by kernel_rfl) (by simp) ?_
  refine AllReadyH.cons (by simp only [gA, gB, gC]; rfl) (fun K hK => ?_) AllReadyH.nil
  refine step_oneJ rfl _ rfl ⟨bp, 2, none⟩ rfl (.int .i64 p.r) (hp3.1 2 _ rfl).1 intI_load ?_
  (try simp only [Act.put, sA, sB, sC])
  refine hK.out _ _ (hX3) ?_
  clear hHeld hK
  intro hHeld
  (try simp only [Act.put, sA, sB, sC])
  refine wpAnyH_take (i := 7) (v := ?_) (by simp only [gA, gB, gC]; rfl) (by kernel_rfl) (by kernel_rfl) (by kernel_rfl) (by exact fun _ _ _ h => h) (Or.inl ⟨by rfl, ?_⟩) (by assumption) ?_; rotate_left; (focus (intro w hSw; (try dsimp only at hSw); go_simp; try with_reducible rfl)); (try simp only [Act.put, sA, sB, sC])
  refine wpAnyH_take (i := 8) (v := ?_) (by simp only [gA, gB, gC]; rfl) (by kernel_rfl) (by kernel_rfl) (by kernel_rfl) (by exact fun _ _ _ h => h) (Or.inl ⟨by rfl, ?_⟩) (by assumption) ?_; rotate_left; (focus (intro w hSw; (try dsimp only at hSw); go_simp; try with_reducible rfl)); (try simp only [Act.put, sA, sB, sC])
  refine wpAnyH_ready (rs := [9]) (by kernel_rfl) (by simp) ?_
  refine AllReadyH.cons (by simp only [gA, gB, gC]; rfl) (fun K hK => ?_) AllReadyH.nil
  have hp4 := hp3.1.set 2 (.int .i64 G) (by show 2 < 3; decide)
  have hX4 : XAt bx c v r (w0.setCell ⟨bp, 2, none⟩ (.int .i64 G)) := hX3.same (heap_setCell_other _ ⟨bp, 2, none⟩ bx _ (by show bx ≠ bp; omega)) (by simp)
  have hB4 := hB3.setCell (p := ⟨bp, 2, none⟩) hlt (.int .i64 G)
  refine step_st rfl _ _ rfl ⟨bp, 2, none⟩ rfl (.int .i64 G) (by simp [Act.eval, hgm]) (int_store _ _ _ _ (hp3.1 2 _ rfl).1 (hp3.1 2 _ rfl).2) ?_
  (try simp only [Act.put, sA, sB, sC])
  refine hK.out _ _ (hX4) ?_
  clear hHeld hK
  intro hHeld
  replace hp4 : BlkL bp (ptr3 ⟨p.s, p.f, G⟩) (w0.setCell ⟨bp, 2, none⟩ (.int .i64 G)) := ⟨hp4, hp4.lt (List.getElem?_eq_getElem (by show 0 < 3; decide))⟩
  generalize w0.setCell ⟨bp, 2, none⟩ (.int .i64 G) = W5 at *
  clear hX3 hp3 hB3
  (try simp only [Act.put, sA, sB, sC])
  refine wpAnyH_done (by kernel_rfl) ?_ _
  go_upto_region 2 with fail
  have hdr := (Below.refl W5.heap.size W5).drew
  have hX6 := hX4.keep hdr
  have hp6 := stab_blk _ _ _ _ hp4 hdr
  have hO6 := Sole.of (bx := bx) (Below.then hB4 hdr)
  clear hX4 hp4 hB4 hdr
  refine wp_region_held_drew (S := (BlkL bp (ptr3 ⟨p.s, p.f, G⟩))) (by kernel_rfl) (by exact hp6) ?_
  intro hHeld
  generalize W5.drew = w6 at *
  refine wpAnyH_take (i := 0) (v := ?_) (by simp only [gA, gB, gC]; rfl) (by kernel_rfl) (by kernel_rfl) (by kernel_rfl) (by exact fun _ _ _ h => h) (Or.inl ⟨by rfl, ?_⟩) (by assumption) ?_; rotate_left; (focus (intro w hSw; (try dsimp only at hSw); go_simp; try with_reducible rfl)); (try simp only [Act.put, sA, sB, sC])
  refine wpAnyH_take (i := 1) (v := ?_) (by simp only [gA, gB, gC]; rfl) (by kernel_rfl) (by kernel_rfl) (by kernel_rfl) (by exact fun _ _ _ h => h) (Or.inl ⟨by rfl, ?_⟩) (by assumption) ?_; rotate_left; (focus (intro w hSw; (try dsimp only at hSw); go_simp; try with_reducible rfl)); (try simp only [Act.put, sA, sB, sC])
  refine wpAnyH_take (i := 2) (v := _) (by simp only [gA, gB, gC]; rfl) (by kernel_rfl) (by kernel_rfl) (by kernel_rfl) (by exact fun _ _ _ h => h) (yields_row (by rfl) _ rfl bp rfl (ptr3 ⟨p.s, p.f, G⟩) (fun _ s => s.range) hundP rfl hszP) (by assumption) ?_; (try simp only [Act.put, sA, sB, sC])
  refine wpAnyH_take (i := 3) (v := ?_) (by simp only [gA, gB, gC]; rfl) (by kernel_rfl) (by kernel_rfl) (by kernel_rfl) (by exact fun _ _ _ h => h) (Or.inl ⟨by rfl, ?_⟩) (by assumption) ?_; rotate_left; (focus (intro w hSw; (try dsimp only at hSw); go_simp; try with_reducible rfl)); (try simp only [Act.put, sA, sB, sC])
  refine wpAnyH_take (i := 4) (v := ?_) (by simp only [gA, gB, gC]; rfl) (by kernel_rfl) (by kernel_rfl) (by kernel_rfl) (by exact fun _ _ _ h => h) (Or.inl ⟨by rfl, ?_⟩) (by assumption) ?_; rotate_left; (focus (intro w hSw; (try dsimp only at hSw); go_simp; try with_reducible rfl)); (try simp only [Act.put, sA, sB, sC])
  refine wpAnyH_take (i := 5) (v := ?_) (by simp only [gA, gB, gC]; rfl) (by kernel_rfl) (by kernel_rfl) (by kernel_rfl) (by exact fun _ _ _ h => h) (Or.inl ⟨by rfl, ?_⟩) (by assumption) ?_; rotate_left; (focus (intro w hSw; (try dsimp only at hSw); go_simp; try with_reducible rfl)); (try simp only [Act.put, sA, sB, sC])
  refine wpAnyH_take (i := 6) (v := ?_) (by simp only [gA, gB, gC]; rfl) (by kernel_rfl) (by kernel_rfl) (by kernel_rfl) (by exact fun _ _ _ h => h) (Or.inl ⟨by rfl, ?_⟩) (by assumption) ?_; rotate_left; (focus (intro w hSw; (try dsimp only at hSw); go_simp; try with_reducible rfl)); (try simp only [Act.put, sA, sB, sC])
  refine wpAnyH_ready (rs := [7]) (by kernel_rfl) (by simp) ?_
  refine AllReadyH.cons (by simp only [gA, gB, gC]; rfl) (fun K hK => ?_) AllReadyH.nil
  obtain ⟨W7, hW7, hth7, hX7, -, hot7⟩ := hX6.setPtr hk ⟨p.s, p.f, G⟩
  have hO7 : Sole bx w W7 := by rw [← hW7]; exact hO6.cells (.inl rfl) _ _
  have hp7 : BlkL bp (ptr3 ⟨p.s, p.f, G⟩) W7 := ⟨hp6.1.same (hot7 _ (by omega)), Nat.lt_of_lt_of_le hp6.2 (by rw [← hW7]; exact (Below.cells (B := 0) (Nat.zero_le _) _ _ (Below.refl 0 w6)).size)⟩
  refine step_store_part rfl _ _ rfl bx (4 + k * 3) rfl (ptr3 ⟨p.s, p.f, G⟩) rfl hth7 hszP (ptr3J_one _) hW7 ?_
  (try simp only [Act.put, sA, sB, sC])
  refine hK.out _ _ (hp7) ?_
  clear hHeld hK
  intro hHeld
  (try simp only [Act.put, sA, sB, sC])
  refine wpAnyH_done (by kernel_rfl) ?_ _
  go_wp2_with fail
  refine bodyPost_end (v := .tuple #[]) (by simp [results, Try.results58, go_sem]) rfl ?_
  exact ⟨⟨_, rfl⟩, hX7, hO7⟩
end Go.Proofs.Ytinibccphecdfaa

/-! PACKAGE cpu AS IT LANDED: pointers loaded. Written by mk_cpufnh.py. -/
namespace Go.Proofs.Ytinibccphecdfaa
open Go.RowKit
set_option maxRecDepth 8000
set_option linter.unusedSimpArgs false
set_option linter.unusedVariables false

/-- What loadPointer's last region keeps. -/
structure SL (bi bf ba : Nat) (i : Ins) (x : Rg) (q : Ptr) (W : World) : Prop where
  i : BlkL bi (ins3 i) W
  x : BlkL bf (rg4 x) W
  q : BlkL ba (ptr3 q) W
theorem SL.keep {bi bf ba : Nat} {i : Ins} {x : Rg} {q : Ptr} {W W' : World} (h : SL bi bf ba i x q W) (hb : Below W.heap.size W W') : SL bi bf ba i x q W' := ⟨stab_blk _ _ _ _ h.i hb, stab_blk _ _ _ _ h.x hb, stab_blk _ _ _ _ h.q hb⟩
/-- What a load of a pointer comes to. -/
def LpP (bx : Nat) (c : Cp) (v : Value) (r : List Value) (k : Nat) (P : Ptr) (E : Int) (w : World) (e : Ending) (w' : World) : Prop :=
  (E ≠ 0 ∧ e = .panicked (thr E) ∧ Below w.heap.size w w') ∨ (E = 0 ∧ (∃ q, e = .returned q) ∧ XAt bx { c with ps := c.ps.set k P } v r w' ∧ Sole bx w w')
set_option maxRecDepth 8000 in
set_option maxHeartbeats 4000000 in
theorem cldp_any (bm bx : Nat) (a : Option Addr) (cap : Nat) (m : List PG) (hm : MG m) (c : Cp) (v : Value) (r : List Value) (hc : c.Ok) (i : Ins) (hi : insE i = 0) (k : Nat) (hk : i.p = (k : Int)) (hk4 : k < 4) (w : World) (hM : MAt bm a cap m w) (hX : XAt bx c v (memI bm :: r) w) :
    Calls Try.prog 59 #[.pointer (some ⟨bx, 0, none⟩), i.v] w (LpP bx c v (memI bm :: r) k (follow (wPtr (rdW c (m.map (·.g)) i)) (mSeg c (m.map (·.g)) i).rg (mRing c i)) (rdE c (m.map (·.g)) i) w) := by
  have hundP := Try.underlying24
  have hszP : (Try.prog.info? 24).map (·.size) = some 3 := by kernel_rfl
  have hundI := Try.underlying64
  have hszI : (Try.prog.info? 64).map (·.size) = some 3 := by kernel_rfl
  have hundR := Try.underlying55
  have hszR : (Try.prog.info? 55).map (·.size) = some 4 := by kernel_rfl
  have hbx := hX.lt
  have kme := fun (W : World) h => cmem_any bx c v (memI bm :: r) hc i hi W h
  have krd := fun (W : World) h1 h2 => cread_any bm bx a cap m hm c v r (memP c i) (kn (m.map (·.g)) (memP c i).s) rfl (rdE c (m.map (·.g)) i) rfl W h1 h2
  have hgok : (kn (m.map (·.g)) (memP c i).s).Ok := kn_ok (fun g hg => by obtain ⟨x, hx, rfl⟩ := List.mem_map.1 hg; exact hm.ok x hx) _
  have hfit : fit64 (rdW c (m.map (·.g)) i) := wAt_fit hgok _
  have hw : wAt (mSeg c (m.map (·.g)) i) (memP c i).f = rdW c (m.map (·.g)) i := rfl
  have hsg : kn (m.map (·.g)) (memP c i).s = mSeg c (m.map (·.g)) i := rfl
  have hrr : (memP c i).r = mRing c i := rfl
  simp only [hsg] at krd
  simp only [hw] at krd
  rw [hsg] at hgok
  have kdp := fun (W : World) => idecp_any (rdW c (m.map (·.g)) i) hfit W
  generalize rdW c (m.map (·.g)) i = wd at *
  generalize rdE c (m.map (·.g)) i = E at *
  generalize (mSeg c (m.map (·.g)) i).rg = x at *
  rw [← hrr]
  generalize memP c i = q at *
  clear hw hsg hrr hgok hfit
  have kfo := fun (W : World) => follow_any (wPtr wd) x q.r W
  generalize wPtr wd = wp at *
  have hi0 := blkl_alloc w (ins3 i).toArray 64
  have hB0 := alloc_below w (.cells (ins3 i).toArray 64)
  have hX0 := hX.keep hB0
  have hM0 := hM.below hB0
  replace hi0 : BlkL w.heap.size (ins3 i) (w.alloc (.cells #[.int .i64 i.o, .int .i64 i.p, .int .i64 i.n] 64)) := hi0
  replace hB0 : Below w.heap.size w (w.alloc (.cells #[.int .i64 i.o, .int .i64 i.p, .int .i64 i.n] 64)) := hB0
  replace hX0 : XAt bx c v (memI bm :: r) (w.alloc (.cells #[.int .i64 i.o, .int .i64 i.p, .int .i64 i.n] 64)) := hX0
  replace hM0 : MAt bm a cap m (w.alloc (.cells #[.int .i64 i.o, .int .i64 i.p, .int .i64 i.n] 64)) := hM0
  replace hk : Aside (i.p = (k : Int)) := hk
  clear hX hM hm
  have kme2 : Aside (∀ W, XAt bx c v (memI bm :: r) W → Calls Try.prog 52 #[.pointer (some ⟨bx, 0, none⟩), .agg (ins3 i).toArray] W fun e w' => e = .returned (.agg (ptr3 q).toArray) ∧ Below W.heap.size W w') := kme
  clear kme
  go_enter Try.func59, Try.ntmps59
  go_upto_region 1 with fail
  generalize w.alloc (.cells #[.int .i64 i.o, .int .i64 i.p, .int .i64 i.n] 64) = W0 at *
  have hri := hi0.range
  go_wp2_with (first | (refine wpList_load_row rfl _ rfl w.heap.size rfl (ins3 i) hri hundI rfl hszI ?_) | fail)
  refine (kme2.out W0 hX0).mono ?_
  rintro e W1 ⟨rfl, hb⟩
  obtain ⟨W2, hW2, hth2, hq2, hb2⟩ := put_new W1 (ptr3 ⟨0, 0, 0⟩).toArray 24 (ptr3 q) rfl (by show 0 < 3; decide)
  have hX2 := (hX0.keep hb).keep hb2
  have hM2 := (hM0.below hb).below hb2
  have hi2 := stab_blk _ _ _ _ (stab_blk _ _ _ _ hi0 hb) hb2
  have hB2 := Below.then (Below.then hB0 hb) hb2
  have hl1 := hb.size
  have hl0 := hi0.2
  clear hX0 hM0 hi0 hB0 hb hb2 hri kme2
  go_upto_region 2 with (first | (refine wpList_store_row rfl _ _ rfl W1.heap.size rfl (ptr3 q) rfl hth2 hszP (ptr3J_one _) hW2 ?_) | fail)
  clear hW2 hth2
  have hrq := hq2.range
  have hlq := hq2.2
  generalize W1.heap.size = ba at *
  go_wp2_with (first | (refine wpList_load_row rfl _ rfl ba rfl (ptr3 q) hrq hundP rfl hszP ?_) | fail)
  refine (krd W2 hM2 hX2).mono ?_
  rintro e W3 ⟨rfl, hb⟩
  by_cases hE : E = 0
  rotate_left
  · rw [if_neg hE]
    clear krd kdp kfo
    go_wp2_with fail
    exact diedC (.inl ⟨hE, rfl, Below.then hB2 hb⟩)
  rw [if_pos hE]
  obtain ⟨W4, hW4, hth4, hx4, hb4⟩ := put_new W3 (rg4 ⟨0, 0, 0, 0⟩).toArray 55 (rg4 x) rfl (by show 0 < 4; decide)
  have hX4 := (hX2.keep hb).keep hb4
  have hi4 := stab_blk _ _ _ _ (stab_blk _ _ _ _ hi2 hb) hb4
  have hq4 := stab_blk _ _ _ _ (stab_blk _ _ _ _ hq2 hb) hb4
  have hB4 := Below.then (Below.then hB2 hb) hb4
  have hl3 := hb.size
  replace hE : Aside (E = 0) := hE
  clear hX2 hM2 hi2 hq2 hB2 hb hb4 krd hrq
  go_upto_region 3 with (first | (refine wpList_store_row rfl _ _ rfl W3.heap.size rfl (rg4 x) rfl hth4 hszR (rg4_one _) hW4 ?_) | fail)
  clear hW4 hth4
  generalize W3.heap.size = bf at *
  have hdr := (Below.refl W4.heap.size W4).drew
  have hS0 : SL w.heap.size bf ba i x q W4.drew := ⟨stab_blk _ _ _ _ hi4 hdr, stab_blk _ _ _ _ hx4 hdr, stab_blk _ _ _ _ hq4 hdr⟩
  have hX5 := hX4.keep hdr
  have hB5 := Below.then hB4 hdr
  have i1 : (k : Int) < 4 := by omega
  have i2 : ¬ (k : Int) < 0 := by omega
  clear hX4 hi4 hq4 hx4 hB4 hdr
  refine wp_region_held_drew (S := (SL w.heap.size bf ba i x q)) (by kernel_rfl) (by exact hS0) ?_
  intro hHeld
  generalize W4.drew = w0 at *
  refine wpAnyH_take (i := 0) (v := ?_) (by simp only [gA, gB, gC]; rfl) (by kernel_rfl) (by kernel_rfl) (by kernel_rfl) (by exact fun _ _ _ h => h) (Or.inl ⟨by rfl, ?_⟩) (by assumption) ?_; rotate_left; (focus (intro w hSw; (try dsimp only at hSw); go_simp; try with_reducible rfl)); (try simp only [Act.put, sA, sB, sC])
  refine wpAnyH_take (i := 1) (v := ?_) (by simp only [gA, gB, gC]; rfl) (by kernel_rfl) (by kernel_rfl) (by kernel_rfl) (by exact fun _ _ _ h => h) (Or.inl ⟨by rfl, ?_⟩) (by assumption) ?_; rotate_left; (focus (intro w hSw; (try dsimp only at hSw); go_simp; try with_reducible rfl)); (try simp only [Act.put, sA, sB, sC])
  refine wpAnyH_take (i := 2) (v := _) (by simp only [gA, gB, gC]; rfl) (by kernel_rfl) (by kernel_rfl) (by kernel_rfl) (by exact fun _ _ _ h => h) (yields_cellI (by rfl) _ rfl ⟨w.heap.size, 1, none⟩ rfl (.int .i64 (k : Int)) (fun _ s => by rw [← hk.out]; exact (s.i.1 1 _ rfl).1) intI_load) (by assumption) ?_; (try simp only [Act.put, sA, sB, sC])
  refine wpAnyH_take (i := 3) (v := ?_) (by simp only [gA, gB, gC]; rfl) (by kernel_rfl) (by kernel_rfl) (by kernel_rfl) (by exact fun _ _ _ h => h) (Or.inl ⟨by rfl, ?_⟩) (by assumption) ?_; rotate_left; (focus (intro w hSw; (try dsimp only at hSw); go_simp; try with_reducible rfl)); (try simp only [Act.put, sA, sB, sC])
  refine wpAnyH_take (i := 5) (v := _) (by simp only [gA, gB, gC]; rfl) (by kernel_rfl) (by kernel_rfl) (by kernel_rfl) (by exact fun _ _ _ h => h) (yields_row (by rfl) _ rfl bf rfl (rg4 x) (fun _ s => s.x.range) hundR rfl hszR) (by assumption) ?_; (try simp only [Act.put, sA, sB, sC])
  refine wpAnyH_take (i := 6) (v := ?_) (by simp only [gA, gB, gC]; rfl) (by kernel_rfl) (by kernel_rfl) (by kernel_rfl) (by exact fun _ _ _ h => h) (Or.inl ⟨by rfl, ?_⟩) (by assumption) ?_; rotate_left; (focus (intro w hSw; (try dsimp only at hSw); go_simp; try with_reducible rfl)); (try simp only [Act.put, sA, sB, sC])
  refine wpAnyH_take (i := 7) (v := _) (by simp only [gA, gB, gC]; rfl) (by kernel_rfl) (by kernel_rfl) (by kernel_rfl) (by exact fun _ _ _ h => h) (yields_cellI (by rfl) _ rfl ⟨ba, 2, none⟩ rfl (.int .i64 q.r) (fun _ s => (s.q.1 2 _ rfl).1) intI_load) (by assumption) ?_; (try simp only [Act.put, sA, sB, sC])
  refine wpAnyH_take (i := 9) (v := ?_) (by simp only [gA, gB, gC]; rfl) (by kernel_rfl) (by kernel_rfl) (by kernel_rfl) (by exact fun _ _ _ h => h) (Or.inl ⟨by rfl, ?_⟩) (by assumption) ?_; rotate_left; (focus (intro w hSw; (try dsimp only at hSw); go_simp; try with_reducible rfl)); (try simp only [Act.put, sA, sB, sC])
  refine wpAnyH_take (i := 10) (v := ?_) (by simp only [gA, gB, gC]; rfl) (by kernel_rfl) (by kernel_rfl) (by kernel_rfl) (by exact fun _ _ _ h => h) (Or.inl ⟨by rfl, ?_⟩) (by assumption) ?_; rotate_left; (focus (intro w hSw; (try dsimp only at hSw); go_simp; try with_reducible rfl)); (try simp only [Act.put, sA, sB, sC])
  refine wpAnyH_take (i := 11) (v := ?_) (by simp only [gA, gB, gC]; rfl) (by kernel_rfl) (by kernel_rfl) (by kernel_rfl) (by exact fun _ _ _ h => h) (Or.inl ⟨by rfl, ?_⟩) (by assumption) ?_; rotate_left; (focus (intro w hSw; (try dsimp only at hSw); go_simp; try with_reducible rfl)); (try simp only [Act.put, sA, sB, sC])
  refine wpAnyH_ready (rs := [4]) (by kernel_rfl) (by simp) ?_
  refine AllReadyH.cons (by simp only [gA, gB, gC]; rfl) (fun K hK => ?_) AllReadyH.nil
  go_simp
  go_at_call 89
  refine (kdp w0).mono ?_
  rintro e w1 ⟨rfl, hb⟩
  replace hS0 := hS0.keep hb
  replace hX5 := hX5.keep hb
  replace hB5 := Below.then hB5 hb
  clear hb
  refine hK.out _ _ (hS0) ?_
  clear hHeld hK
  intro hHeld
  (try simp only [Act.put, sA, sB, sC])
  refine wpAnyH_ready (rs := [8]) (by kernel_rfl) (by simp) ?_
  refine AllReadyH.cons (by simp only [gA, gB, gC]; rfl) (fun K hK => ?_) AllReadyH.nil
  go_simp
  go_at_call 90
  refine (kfo w1).mono ?_
  rintro e w2 ⟨rfl, hb⟩
  replace hS0 := hS0.keep hb
  replace hX5 := hX5.keep hb
  replace hB5 := Below.then hB5 hb
  clear hb
  refine hK.out _ _ (hS0) ?_
  clear hHeld hK
  intro hHeld
  (try simp only [Act.put, sA, sB, sC])
  refine wpAnyH_take (i := 12) (v := ?_) (by simp only [gA, gB, gC]; rfl) (by kernel_rfl) (by kernel_rfl) (by kernel_rfl) (by exact fun _ _ _ h => h) (Or.inl ⟨by rfl, ?_⟩) (by assumption) ?_; rotate_left; (focus (intro w hSw; (try dsimp only at hSw); go_simp; try with_reducible rfl)); (try simp only [Act.put, sA, sB, sC])
  refine wpAnyH_ready (rs := [13]) (by kernel_rfl) (by simp) ?_
  refine AllReadyH.cons (by simp only [gA, gB, gC]; rfl) (fun K hK => ?_) AllReadyH.nil
  obtain ⟨W7, hW7, hth7, hX7, -, hot7⟩ := hX5.setPtr hk4 (follow wp x q.r)
  have hO7 : Sole bx w W7 := by rw [← hW7]; exact (Sole.of (bx := bx) hB5).cells (.inl rfl) _ _
  have hs7 : w2.heap.size ≤ W7.heap.size := by rw [← hW7]; exact (Below.cells (B := 0) (Nat.zero_le _) _ _ (Below.refl 0 w2)).size
  have hS7 : SL w.heap.size bf ba i x q W7 := ⟨⟨hS0.i.1.same (hot7 _ (by omega)), Nat.lt_of_lt_of_le hS0.i.2 hs7⟩, ⟨hS0.x.1.same (hot7 _ (by omega)), Nat.lt_of_lt_of_le hS0.x.2 hs7⟩, ⟨hS0.q.1.same (hot7 _ (by omega)), Nat.lt_of_lt_of_le hS0.q.2 hs7⟩⟩
  refine step_store_part rfl _ _ rfl bx (4 + k * 3) rfl (ptr3 (follow wp x q.r)) rfl hth7 hszP (ptr3J_one _) hW7 ?_
  (try simp only [Act.put, sA, sB, sC])
  refine hK.out _ _ (hS7) ?_
  clear hHeld hK
  intro hHeld
  (try simp only [Act.put, sA, sB, sC])
  refine wpAnyH_done (by kernel_rfl) ?_ _
  go_wp2_with fail
  refine bodyPost_end (v := .tuple #[]) (by simp [results, Try.results59, go_sem]) rfl ?_
  exact .inr ⟨hE.out, ⟨_, rfl⟩, hX7, hO7⟩
end Go.Proofs.Ytinibccphecdfaa

/-! PACKAGE cpu AS IT LANDED: call. Written by mk_cpufnj.py. -/
namespace Go.Proofs.Ytinibccphecdfaa
open Go.RowKit
set_option maxRecDepth 8000
set_option linter.unusedSimpArgs false
set_option linter.unusedVariables false

def clG (g : Sg) (q : Ptr) (n : Nat) : Int := if g.is = false then 35 else if hasM g.md 4 = false then 33 else if callE g.rg q.f q.r ≠ 0 then 34 else if ¬ inG g q.f then 35 else if 8 ≤ n then 37 else 0
def clD (d : Cp) (g : Sg) (q : Ptr) : Cp := raiseC { d with seg := q.s, off := q.f, ring := callN g.rg q.f q.r, st := d.st ++ [⟨d.seg, d.off, d.ring⟩] } d.ring
theorem fr_okC : ElemOk 84 26 3 frc :=
  ⟨Try.underlying26, by
    obtain ⟨i, h1, h2, h3, h4⟩ := info_of (e := 84) (z := .agg #[.int .i64 0, .int .i64 0, .int .i64 0]) (sz := 3) (b := 24) (by kernel_rfl)
    exact ⟨i, _, _, h1, h2, h3, h4, rfl, by omega⟩, by omega, fun _ => rfl, fun x u hu => by simp [frc] at hu; rcases hu with rfl | rfl | rfl <;> rfl⟩
theorem frc_one (f : Fr) : ∀ u ∈ frc f, u.oneCell' = true := fr_okC.one f
theorem crs_store (w : World) (y : Addr) (u v : Value) {b : Option Addr} {n c : Nat} (hs : v = .slice b n c) (hc : w.cell? y = some u) (hf : w.frozen? y = false) : (Instr.storeAt 26 (.pointer (some y)) v).run Try.prog w = .ok () (w.setCell y v) := by
  subst hs
  have h1 := Try.underlying26
  go_simp
/-- The stack, whatever it is called. -/
theorem XAt.any {b : Nat} {c : Cp} {v : Value} {r : List Value} {W : World} (h : XAt b c v r W) (s : List Fr) : XAt b { c with st := s } v r W := ⟨h.ps, h.blk⟩
/-- What a call, or a return, comes to. -/
def ClP (bx L : Nat) (t : Cp) (r : List Value) (E : Int) (w : World) (e : Ending) (w' : World) : Prop :=
  (E ≠ 0 ∧ e = .panicked (thr E) ∧ Below w.heap.size w w') ∨ (E = 0 ∧ (∃ q, e = .returned q) ∧ ∃ v', XAt bx t v' r w' ∧ OwnR 84 3 frc w' L v' t.st ∧ Below L w w')
set_option maxRecDepth 8000 in
set_option maxHeartbeats 8000000 in
theorem ccall_any (bm bx L : Nat) (a : Option Addr) (cap : Nat) (m : List PG) (hm : MG m) (d : Cp) (v : Value) (r : List Value) (hst : d.st.length ≤ 8) (q : Ptr) (g : Sg) (hg : kn (m.map (·.g)) q.s = g) (E : Int) (hE : clG g q d.st.length = E) (w : World) (hM : MAt bm a cap m w) (hX : XAt bx d v (memI bm :: r) w) (hO : OwnR 84 3 frc w L v d.st) (hLx : L ≤ bx) (hvx : v.ownBlock ≠ some bx) :
    Calls Try.prog 61 #[.pointer (some ⟨bx, 0, none⟩), .agg (ptr3 q).toArray] w (ClP bx L (clD d g q) (memI bm :: r) E w) := by
  have hundC := Try.underlying60
  have hszC : (Try.prog.info? 60).map (·.size) = some 6 := by kernel_rfl
  have hundR := Try.underlying55
  have hszR : (Try.prog.info? 55).map (·.size) = some 4 := by kernel_rfl
  have hundF := Try.underlying84
  have hszF : (Try.prog.info? 84).map (·.size) = some 3 := by kernel_rfl
  have hgok : g.Ok := by rw [← hg]; exact kn_ok (fun g hg => by obtain ⟨x, hx, rfl⟩ := List.mem_map.1 hg; exact hm.ok x hx) _
  have hq0 := blkl_alloc w (ptr3 q).toArray 24
  have hB0 := alloc_below w (.cells (ptr3 q).toArray 24)
  have hX1 := hX.keep hB0
  have hM1 := hM.below hB0
  have hO1 := hO.below hB0
  have hbx := hX.lt
  have hvk : ∀ k, v.ownBlock = some k → k < w.heap.size := fun k hk => (hO.lt hk).2
  replace hq0 : BlkL w.heap.size (ptr3 q) (w.alloc (.cells #[.int .i64 q.s, .int .i64 q.f, .int .i64 q.r] 24)) := hq0
  replace hX1 : XAt bx d v (memI bm :: r) (w.alloc (.cells #[.int .i64 q.s, .int .i64 q.f, .int .i64 q.r] 24)) := hX1
  replace hM1 : MAt bm a cap m (w.alloc (.cells #[.int .i64 q.s, .int .i64 q.f, .int .i64 q.r] 24)) := hM1
  replace hB0 : Below w.heap.size w (w.alloc (.cells #[.int .i64 q.s, .int .i64 q.f, .int .i64 q.r] 24)) := hB0
  replace hO1 : OwnR 84 3 frc (w.alloc (.cells #[.int .i64 q.s, .int .i64 q.f, .int .i64 q.r] 24)) L v d.st := hO1
  clear hX hM hO
  have kn0 := fun (W : World) h1 h2 => cseg_none bm bx a cap m hm d v r q.s W h1 h2
  have kn1 := fun (W : World) h1 h2 => cseg_some bm bx a cap m hm d v r q.s W h1 h2
  rw [hg] at kn0 kn1
  by_cases c1 : g.is = false
  · have e35 : E = 35 := by rw [← hE, clG, if_pos c1]
    subst e35
    replace hE : Aside (clG g q d.st.length = 35) := hE
    clear kn1 hg
    go_enter Try.func61, Try.ntmps61
    go_upto_region 1 with fail
    generalize w.alloc (.cells #[.int .i64 q.s, .int .i64 q.f, .int .i64 q.r] 24) = W0 at *
    have z0 := (hq0.1 0 _ rfl).1
    go_wp2_with fail
    refine (kn0 W0 hM1 hX1 c1).mono ?_
    rintro e W1 ⟨rfl, hb⟩
    go_wp2_with fail
    exact diedC (.inl ⟨by decide, rfl, Below.then hB0 hb⟩)
  have c1' : g.is = true := by simpa using c1
  replace hE : Aside (clG g q d.st.length = E) := hE
  clear kn0 hg
  go_enter Try.func61, Try.ntmps61
  go_upto_region 1 with fail
  generalize w.alloc (.cells #[.int .i64 q.s, .int .i64 q.f, .int .i64 q.r] 24) = W0 at *
  have z0 := (hq0.1 0 _ rfl).1
  go_wp2_with fail
  refine (kn1 W0 hM1 hX1 c1').mono ?_
  rintro e W1 ⟨u, rfl, ho, hb⟩
  obtain ⟨W2, hW2, hth2, hg2, hB2⟩ := new_sg W1 g u
  obtain ⟨ua, uc, hu, -, -, -⟩ := ho.slice wd_okC.len
  have hX2 := (hX1.keep hb).keep hB2
  have hq2 := stab_blk _ _ _ _ (stab_blk _ _ _ _ hq0 hb) hB2
  have hBB := Below.then (Below.then hB0 hb) hB2
  have hO2 := (hO1.below hb).below hB2
  subst hu
  have hone := sg6_one g ua g.ws.length uc
  have ka := fun (W : World) => allows_any g (.slice ua g.ws.length uc) 4 W
  have kh := fun (W : World) => has_any g ua uc q.f W
  obtain ⟨X, hXe⟩ : ∃ X, sg6 g (.slice ua g.ws.length uc) = X := ⟨_, rfl⟩
  have hl : X.length = 6 := by rw [← hXe]; rfl
  have hszX : (Try.prog.info? 60).map (·.size) = some X.length := by rw [hl]; exact hszC
  have hfr : ∀ W b, BlkL b X W → W.rangeAt b 2 (rg4 g.rg) := fun W b h => by rw [← hXe] at h; exact fld_rg h
  simp only [hXe] at hW2 hth2 hg2 hone ka kh
  have hXv : Aside (.agg (sg6 g (.slice ua g.ws.length uc)).toArray = Value.agg X.toArray) := by rw [hXe]; exact rfl
  clear hXe hl ho hb hB2 hq0 hB0 z0 kn1 hM1 hX1 hm hO1
  go_upto_region 2 with (first | (refine wpList_store_row rfl _ _ rfl W1.heap.size rfl X hXv.out hth2 hszX hone hW2 ?_) | fail)
  clear hW2 hth2 hXv
  generalize W1.heap.size = bg at *
  have hrx := hg2.range
  cases c2 : hasM g.md 4 with
  | false =>
    have hEE : Aside (E = 33) := by
      show _ = _
      rw [← hE.out, clG, if_neg c1, if_pos c2]
    rw [c2] at ka
    clear hE c2 kh
    go_wp2_with (first | (refine wpList_load_row rfl _ rfl bg rfl X hrx hundC rfl hszX ?_) | fail)
    refine (ka W2).mono ?_
    rintro e W3 ⟨rfl, hb⟩
    go_wp2_with fail
    refine (need_no 33 W3).mono ?_
    rintro e W4 ⟨rfl, rfl⟩
    go_wp2_with fail
    exact diedC (.inl ⟨by rw [hEE.out]; decide, by rw [hEE.out], Below.then hBB hb⟩)
  | true =>
  rw [c2] at ka
  have hE1 : Aside (E = if callE g.rg q.f q.r ≠ 0 then 34 else if ¬ inG g q.f then 35 else if 8 ≤ d.st.length then 37 else 0) := by
    show _ = _
    rw [← hE.out, clG, if_neg c1, if_neg (by rw [c2]; simp)]
  go_wp2_with (first | (refine wpList_load_row rfl _ rfl bg rfl X hrx hundC rfl hszX ?_) | fail)
  refine (ka W2).mono ?_
  rintro e W3 ⟨rfl, hb⟩
  replace hX2 := hX2.keep hb
  replace hq2 := stab_blk _ _ _ _ hq2 hb
  replace hg2 := stab_blk _ _ _ _ hg2 hb
  replace hBB := Below.then hBB hb
  replace hO2 := hO2.below hb
  have z1 := (hq2.1 1 _ rfl).1
  have z2 := (hq2.1 2 _ rfl).1
  have hrgx := hfr _ _ hg2
  have hb8 : g.rg.v = .agg (rg4 g.rg).toArray := rfl
  have kx := fun (W : World) => rgcall_any g.rg q.f q.r W (hgok.rg c1')
  rw [hb8] at kx
  clear hb ka hb8 hE c1 c2 hrx hgok c1'
  go_wp2_with fail
  refine (need_ok 33 W3).mono ?_
  rintro e W4 ⟨rfl, hw4⟩
  rw [hw4]
  clear hw4 W4
  obtain ⟨CE, hCE⟩ : ∃ CE, callE g.rg q.f q.r = CE := ⟨_, rfl⟩
  obtain ⟨CN, hCN⟩ : ∃ CN, callN g.rg q.f q.r = CN := ⟨_, rfl⟩
  rw [hCE] at hE1
  simp only [hCE, hCN] at kx
  replace hCN : Aside (callN g.rg q.f q.r = CN) := hCN
  replace hCE : Aside (callE g.rg q.f q.r = CE) := hCE
  go_wp2_with (first | (refine wpList_load_midg (by rfl) _ rfl bg 2 rfl (rg4 g.rg) hrgx hundR rfl hszR ?_) | fail)
  refine (kx W3).mono ?_
  rintro e W4 ⟨rfl, hb⟩
  replace hX2 := hX2.keep hb
  replace hq2 := stab_blk _ _ _ _ hq2 hb
  replace hg2 := stab_blk _ _ _ _ hg2 hb
  replace hBB := Below.then hBB hb
  replace hO2 := hO2.below hb
  clear hb kx z1 z2 hrgx hCE
  by_cases c3 : CE = 0
  rotate_left
  · have hEE : Aside (E = 34) := by
      show _ = _
      rw [hE1.out, if_pos c3]
    have qq : (CE == 0) = false := by simpa using c3
    clear hE1 c3 kh
    go_wp2_with fail
    refine (need_no 34 W4).mono ?_
    rintro e W5 ⟨rfl, rfl⟩
    go_wp2_with fail
    exact diedC (.inl ⟨by rw [hEE.out]; decide, by rw [hEE.out], hBB⟩)
  have hE2 : Aside (E = if ¬ inG g q.f then 35 else if 8 ≤ d.st.length then 37 else 0) := by
    show _ = _
    rw [hE1.out, if_neg (by simpa using c3)]
  have qq : (CE == 0) = true := by simpa using c3
  clear hE1 c3
  go_wp2_with fail
  refine (need_ok 34 W4).mono ?_
  rintro e W5 ⟨rfl, hw5⟩
  rw [hw5]
  clear hw5 W5 qq
  have hrx := hg2.range
  have z1 := (hq2.1 1 _ rfl).1
  cases c5 : decide (inG g q.f) with
  | false =>
    rw [c5] at kh
    have hEE : Aside (E = 35) := by
      show _ = _
      rw [hE2.out, if_pos (by simpa using c5)]
    clear hE2 c5
    go_wp2_with (first | (refine wpList_load_row rfl _ rfl bg rfl X hrx hundC rfl hszX ?_) | fail)
    refine (kh W4).mono ?_
    rintro e W6 ⟨rfl, hb⟩
    go_wp2_with fail
    refine (need_no 35 W6).mono ?_
    rintro e W7 ⟨rfl, rfl⟩
    go_wp2_with fail
    exact diedC (.inl ⟨by rw [hEE.out]; decide, by rw [hEE.out], Below.then hBB hb⟩)
  | true =>
  rw [c5] at kh
  have hE3 : Aside (E = if 8 ≤ d.st.length then 37 else 0) := by
    show _ = _
    rw [hE2.out, if_neg (by simpa using c5)]
  clear hE2 c5
  go_wp2_with (first | (refine wpList_load_row rfl _ rfl bg rfl X hrx hundC rfl hszX ?_) | fail)
  refine (kh W4).mono ?_
  rintro e W6 ⟨rfl, hb⟩
  replace hX2 := hX2.keep hb
  replace hq2 := stab_blk _ _ _ _ hq2 hb
  replace hBB := Below.then hBB hb
  replace hO2 := hO2.below hb
  clear hb kh hrx hg2 z1 hfr
  go_wp2_with fail
  refine (need_ok 35 W6).mono ?_
  rintro e W7 ⟨rfl, hw7⟩
  rw [hw7]
  clear hw7 W7
  obtain ⟨va, vc, hv, hvc, -, -⟩ := hO2.slice frc_len
  have y16 := hX2.stk
  rw [hv] at y16
  have hvv : Aside (v = .slice va d.st.length vc) := hv
  clear hv
  by_cases c6 : 8 ≤ d.st.length
  · have hEE : Aside (E = 37) := by
      show _ = _
      rw [hE3.out, if_pos c6]
    have qq : decide ((d.st.length : Int) < 8) = false := by simp; omega
    clear hE3 c6
    generalize d.st.length = n at *
    go_wp2_with fail
    refine (need_no 37 W6).mono ?_
    rintro e W7 ⟨rfl, rfl⟩
    go_wp2_with fail
    exact diedC (.inl ⟨by rw [hEE.out]; decide, by rw [hEE.out], hBB⟩)
  have hEE : Aside (E = 0) := by
    show _ = _
    rw [hE3.out, if_neg c6]
  have qq : (d.st.length : Int) < 8 := by omega
  clear hE3
  go_wp2_with fail
  refine (need_ok 37 W6).mono ?_
  rintro e W7 ⟨rfl, hw7⟩
  rw [hw7]
  clear hw7 W7 qq
  go_upto_region 7 with fail
  have hdr := (Below.refl W6.heap.size W6).drew
  have hX7 := hX2.keep hdr
  have hq7 := stab_blk _ _ _ _ hq2 hdr
  have hB7 := Below.then hBB hdr
  have hO7 := hO2.below hdr
  clear hX2 hq2 hBB hO2 hdr y16
  refine wp_region_held_drew (S := (XAt bx d v (memI bm :: r))) (by kernel_rfl) (by exact hX7) ?_
  intro hHeld
  generalize W6.drew = w0 at *
  obtain ⟨W8, hW8, hth8, hf8, hb8⟩ := put_new w0 (frc ⟨0, 0, 0⟩).toArray 84 (frc ⟨d.seg, d.off, d.ring⟩) rfl (by show 0 < 3; decide)
  have hA := alloc_below w0 (.cells (frc ⟨0, 0, 0⟩).toArray 84)
  have hXA := hX7.keep hA
  have hX8 := hX7.keep hb8
  refine wpAnyH_take (i := 0) (v := ?_) (by simp only [gA, gB, gC]; rfl) (by kernel_rfl) (by kernel_rfl) (by kernel_rfl) (by exact fun _ _ _ h => h) (Or.inl ⟨by rfl, ?_⟩) (by assumption) ?_; rotate_left; (focus (intro w hSw; (try dsimp only at hSw); go_simp; try with_reducible rfl)); (try simp only [Act.put, sA, sB, sC])
  refine wpAnyH_take (i := 1) (v := ?_) (by simp only [gA, gB, gC]; rfl) (by kernel_rfl) (by kernel_rfl) (by kernel_rfl) (by exact fun _ _ _ h => h) (Or.inl ⟨by rfl, ?_⟩) (by assumption) ?_; rotate_left; (focus (intro w hSw; (try dsimp only at hSw); go_simp; try with_reducible rfl)); (try simp only [Act.put, sA, sB, sC])
  refine wpAnyH_take (i := 2) (v := ?_) (by simp only [gA, gB, gC]; rfl) (by kernel_rfl) (by kernel_rfl) (by kernel_rfl) (by exact fun _ _ _ h => h) (Or.inl ⟨by rfl, ?_⟩) (by assumption) ?_; rotate_left; (focus (intro w hSw; (try dsimp only at hSw); go_simp; try with_reducible rfl)); (try simp only [Act.put, sA, sB, sC])
  refine wpAnyH_take (i := 3) (v := ?_) (by simp only [gA, gB, gC]; rfl) (by kernel_rfl) (by kernel_rfl) (by kernel_rfl) (by exact fun _ _ _ h => h) (Or.inl ⟨by rfl, ?_⟩) (by assumption) ?_; rotate_left; (focus (intro w hSw; (try dsimp only at hSw); go_simp; try with_reducible rfl)); (try simp only [Act.put, sA, sB, sC])
  refine wpAnyH_take (i := 4) (v := _) (by simp only [gA, gB, gC]; rfl) (by kernel_rfl) (by kernel_rfl) (by kernel_rfl) (by exact fun _ _ _ h => h) (yields_cellI (by rfl) _ rfl ⟨bx, 0, none⟩ rfl (.int .i64 d.seg) (fun _ s => s.seg) intI_load) (by assumption) ?_; (try simp only [Act.put, sA, sB, sC])
  refine wpAnyH_take (i := 5) (v := ?_) (by simp only [gA, gB, gC]; rfl) (by kernel_rfl) (by kernel_rfl) (by kernel_rfl) (by exact fun _ _ _ h => h) (Or.inl ⟨by rfl, ?_⟩) (by assumption) ?_; rotate_left; (focus (intro w hSw; (try dsimp only at hSw); go_simp; try with_reducible rfl)); (try simp only [Act.put, sA, sB, sC])
  refine wpAnyH_take (i := 6) (v := ?_) (by simp only [gA, gB, gC]; rfl) (by kernel_rfl) (by kernel_rfl) (by kernel_rfl) (by exact fun _ _ _ h => h) (Or.inl ⟨by rfl, ?_⟩) (by assumption) ?_; rotate_left; (focus (intro w hSw; (try dsimp only at hSw); go_simp; try with_reducible rfl)); (try simp only [Act.put, sA, sB, sC])
  refine wpAnyH_take (i := 7) (v := ?_) (by simp only [gA, gB, gC]; rfl) (by kernel_rfl) (by kernel_rfl) (by kernel_rfl) (by exact fun _ _ _ h => h) (Or.inl ⟨by rfl, ?_⟩) (by assumption) ?_; rotate_left; (focus (intro w hSw; (try dsimp only at hSw); go_simp; try with_reducible rfl)); (try simp only [Act.put, sA, sB, sC])
  refine wpAnyH_take (i := 8) (v := ?_) (by simp only [gA, gB, gC]; rfl) (by kernel_rfl) (by kernel_rfl) (by kernel_rfl) (by exact fun _ _ _ h => h) (Or.inl ⟨by rfl, ?_⟩) (by assumption) ?_; rotate_left; (focus (intro w hSw; (try dsimp only at hSw); go_simp; try with_reducible rfl)); (try simp only [Act.put, sA, sB, sC])
  refine wpAnyH_take (i := 9) (v := _) (by simp only [gA, gB, gC]; rfl) (by kernel_rfl) (by kernel_rfl) (by kernel_rfl) (by exact fun _ _ _ h => h) (yields_cellI (by rfl) _ rfl ⟨bx, 1, none⟩ rfl (.int .i64 d.off) (fun _ s => s.off) intI_load) (by assumption) ?_; (try simp only [Act.put, sA, sB, sC])
  refine wpAnyH_take (i := 10) (v := ?_) (by simp only [gA, gB, gC]; rfl) (by kernel_rfl) (by kernel_rfl) (by kernel_rfl) (by exact fun _ _ _ h => h) (Or.inl ⟨by rfl, ?_⟩) (by assumption) ?_; rotate_left; (focus (intro w hSw; (try dsimp only at hSw); go_simp; try with_reducible rfl)); (try simp only [Act.put, sA, sB, sC])
  refine wpAnyH_take (i := 11) (v := ?_) (by simp only [gA, gB, gC]; rfl) (by kernel_rfl) (by kernel_rfl) (by kernel_rfl) (by exact fun _ _ _ h => h) (Or.inl ⟨by rfl, ?_⟩) (by assumption) ?_; rotate_left; (focus (intro w hSw; (try dsimp only at hSw); go_simp; try with_reducible rfl)); (try simp only [Act.put, sA, sB, sC])
  refine wpAnyH_take (i := 12) (v := ?_) (by simp only [gA, gB, gC]; rfl) (by kernel_rfl) (by kernel_rfl) (by kernel_rfl) (by exact fun _ _ _ h => h) (Or.inl ⟨by rfl, ?_⟩) (by assumption) ?_; rotate_left; (focus (intro w hSw; (try dsimp only at hSw); go_simp; try with_reducible rfl)); (try simp only [Act.put, sA, sB, sC])
  refine wpAnyH_take (i := 13) (v := ?_) (by simp only [gA, gB, gC]; rfl) (by kernel_rfl) (by kernel_rfl) (by kernel_rfl) (by exact fun _ _ _ h => h) (Or.inl ⟨by rfl, ?_⟩) (by assumption) ?_; rotate_left; (focus (intro w hSw; (try dsimp only at hSw); go_simp; try with_reducible rfl)); (try simp only [Act.put, sA, sB, sC])
  refine wpAnyH_take (i := 14) (v := _) (by simp only [gA, gB, gC]; rfl) (by kernel_rfl) (by kernel_rfl) (by kernel_rfl) (by exact fun _ _ _ h => h) (yields_cellI (by rfl) _ rfl ⟨bx, 2, none⟩ rfl (.int .i64 d.ring) (fun _ s => s.ring) intI_load) (by assumption) ?_; (try simp only [Act.put, sA, sB, sC])
  refine wpAnyH_take (i := 15) (v := ?_) (by simp only [gA, gB, gC]; rfl) (by kernel_rfl) (by kernel_rfl) (by kernel_rfl) (by exact fun _ _ _ h => h) (Or.inl ⟨by rfl, ?_⟩) (by assumption) ?_; rotate_left; (focus (intro w hSw; (try dsimp only at hSw); go_simp; try with_reducible rfl)); (try simp only [Act.put, sA, sB, sC])
  refine wpAnyH_ready (rs := [16]) (by kernel_rfl) (by simp) ?_
  refine AllReadyH.cons (by simp only [gA, gB, gC]; rfl) (fun K hK => ?_) AllReadyH.nil
  refine step_allocC (z := #[.int .i64 0, .int .i64 0, .int .i64 0]) rfl rfl (fun _ => rfl) ?_
  (try simp only [Act.put, sA, sB, sC])
  refine hK.out _ _ (hXA) ?_
  clear hHeld hK
  intro hHeld
  (try simp only [Act.put, sA, sB, sC])
  refine wpAnyH_ready (rs := [17]) (by kernel_rfl) (by simp) ?_
  refine AllReadyH.cons (by simp only [gA, gB, gC]; rfl) (fun K hK => ?_) AllReadyH.nil
  refine step_store_rowC rfl _ _ rfl w0.heap.size rfl (frc ⟨d.seg, d.off, d.ring⟩) rfl hth8 hszF (frc_one _) hW8 ?_
  (try simp only [Act.put, sA, sB, sC])
  refine hK.out _ _ (hX8) ?_
  clear hHeld hK
  intro hHeld
  (try simp only [Act.put, sA, sB, sC])
  refine wpAnyH_done (by kernel_rfl) ?_ _
  have hq8 := stab_blk _ _ _ _ hq7 hb8
  have hB8 := Below.then hB7 hb8
  have hO8 := hO7.below hb8
  have hbk : w.heap.size ≤ w0.heap.size ∧ bx < w0.heap.size := ⟨hB7.size, hX7.lt⟩
  have hqk := hq7.2
  go_upto_region 8 with fail
  clear hW8 hth8 hXA hA hX7 hq7 hB7 hO7 hb8
  generalize w0.heap.size = bk at *
  have hdr := (Below.refl W8.heap.size W8).drew
  have hX9 := hX8.keep hdr
  have hf9 := stab_blk _ _ _ _ hf8 hdr
  have hq9 := stab_blk _ _ _ _ hq8 hdr
  have hO9 := hO8.below hdr
  have hL9 : L ≤ W8.drew.heap.size := by have := hX9.lt; omega
  have hB9 : Below L w W8.drew := (Below.then hB8 hdr).mono (by omega)
  clear hX8 hf8 hq8 hO8 hB8 hdr
  refine wp_region_held_drew (S := (BlkL bk (frc ⟨d.seg, d.off, d.ring⟩))) (by kernel_rfl) (by exact hf9) ?_
  intro hHeld
  generalize W8.drew = wz at *
  obtain ⟨v2, WB, hap, hoB, hgB⟩ := OwnR.push fr_okC hO9 hL9 ⟨d.seg, d.off, d.ring⟩ (frc ⟨d.seg, d.off, d.ring⟩).toArray rfl 84 (by omega)
  have hbB := hO9.grew_below hL9 hgB
  have hbA := alloc_below wz (.cells (frc ⟨d.seg, d.off, d.ring⟩).toArray 84)
  have hXA := hX9.keep hbA
  have hfA := stab_blk _ _ _ _ hf9 hbA
  have hXB : XAt bx d v (memI bm :: r) WB := hX9.same (hgB.by_.block bx hX9.lt (fun e => hvx e.symm)) hgB.by_.size
  have hfB : BlkL bk (frc ⟨d.seg, d.off, d.ring⟩) WB := ⟨hf9.1.same (hgB.by_.block bk hf9.2 (fun e => by have := hvk bk e.symm; omega)), Nat.lt_of_lt_of_le hf9.2 hgB.by_.size⟩
  have hqB : BlkL w.heap.size (ptr3 q) WB := ⟨hq9.1.same (hgB.by_.block _ hq9.2 (fun e => by have := hvk _ e.symm; omega)), Nat.lt_of_lt_of_le hq9.2 hgB.by_.size⟩
  have hvB := hgB.apart hX9.lt (fun e => hvx e.symm)
  obtain ⟨a2, cap2, hv2, -, -, -⟩ := hoB.slice frc_len
  refine wpAnyH_take (i := 0) (v := ?_) (by simp only [gA, gB, gC]; rfl) (by kernel_rfl) (by kernel_rfl) (by kernel_rfl) (by exact fun _ _ _ h => h) (Or.inl ⟨by rfl, ?_⟩) (by assumption) ?_; rotate_left; (focus (intro w hSw; (try dsimp only at hSw); go_simp; try with_reducible rfl)); (try simp only [Act.put, sA, sB, sC])
  refine wpAnyH_take (i := 1) (v := ?_) (by simp only [gA, gB, gC]; rfl) (by kernel_rfl) (by kernel_rfl) (by kernel_rfl) (by exact fun _ _ _ h => h) (Or.inl ⟨by rfl, ?_⟩) (by assumption) ?_; rotate_left; (focus (intro w hSw; (try dsimp only at hSw); go_simp; try with_reducible rfl)); (try simp only [Act.put, sA, sB, sC])
  refine wpAnyH_take (i := 2) (v := ?_) (by simp only [gA, gB, gC]; rfl) (by kernel_rfl) (by kernel_rfl) (by kernel_rfl) (by exact fun _ _ _ h => h) (Or.inl ⟨by rfl, ?_⟩) (by assumption) ?_; rotate_left; (focus (intro w hSw; (try dsimp only at hSw); go_simp; try with_reducible rfl)); (try simp only [Act.put, sA, sB, sC])
  refine wpAnyH_take (i := 3) (v := ?_) (by simp only [gA, gB, gC]; rfl) (by kernel_rfl) (by kernel_rfl) (by kernel_rfl) (by exact fun _ _ _ h => h) (Or.inl ⟨by rfl, ?_⟩) (by assumption) ?_; rotate_left; (focus (intro w hSw; (try dsimp only at hSw); go_simp; try with_reducible rfl)); (try simp only [Act.put, sA, sB, sC])
  refine wpAnyH_take (i := 4) (v := ?_) (by simp only [gA, gB, gC]; rfl) (by kernel_rfl) (by kernel_rfl) (by kernel_rfl) (by exact fun _ _ _ h => h) (Or.inl ⟨by rfl, ?_⟩) (by assumption) ?_; rotate_left; (focus (intro w hSw; (try dsimp only at hSw); go_simp; try with_reducible rfl)); (try simp only [Act.put, sA, sB, sC])
  refine wpAnyH_take (i := 6) (v := _) (by simp only [gA, gB, gC]; rfl) (by kernel_rfl) (by kernel_rfl) (by kernel_rfl) (by exact fun _ _ _ h => h) (yields_row (by rfl) _ rfl bk rfl (frc ⟨d.seg, d.off, d.ring⟩) (fun _ s => s.range) hundF rfl hszF) (by assumption) ?_; (try simp only [Act.put, sA, sB, sC])
  refine wpAnyH_ready (rs := [5, 7]) (by kernel_rfl) (by simp) ?_
  refine AllReadyH.cons (by simp only [gA, gB, gC]; rfl) (fun K hK => ?_) ?_
  · skip
    refine step_oneJ rfl _ rfl ⟨bx, 16, none⟩ rfl v hX9.stk crs_load ?_
    (try simp only [Act.put, sA, sB, sC])
    refine hK.out _ _ (hf9) ?_
    clear hHeld hK
    intro hHeld
    (try simp only [Act.put, sA, sB, sC])
    refine wpAnyH_ready (rs := [7]) (by kernel_rfl) (by simp) ?_
    refine AllReadyH.cons (by simp only [gA, gB, gC]; rfl) (fun K hK => ?_) AllReadyH.nil
    refine step_build1 fr_okC (by decide) rfl _ rfl (frc ⟨d.seg, d.off, d.ring⟩) rfl rfl ?_
    (try simp only [Act.put, sA, sB, sC])
    refine hK.out _ _ (hfA) ?_
    clear hHeld hK
    intro hHeld
    (try simp only [Act.put, sA, sB, sC])
    refine wpAnyH_ready (rs := [8]) (by kernel_rfl) (by simp) ?_
    refine AllReadyH.cons (by simp only [gA, gB, gC]; rfl) (fun K hK => ?_) AllReadyH.nil
    refine step_append rfl _ _ rfl rfl rfl rfl hap ?_
    (try simp only [Act.put, sA, sB, sC])
    refine hK.out _ _ (hfB) ?_
    clear hHeld hK
    intro hHeld
    clear hap
    (try simp only [Act.put, sA, sB, sC])
    refine wpAnyH_take (i := 9) (v := ?_) (by simp only [gA, gB, gC]; rfl) (by kernel_rfl) (by kernel_rfl) (by kernel_rfl) (by exact fun _ _ _ h => h) (Or.inl ⟨by rfl, ?_⟩) (by assumption) ?_; rotate_left; (focus (intro w hSw; (try dsimp only at hSw); go_simp; try with_reducible rfl)); (try simp only [Act.put, sA, sB, sC])
    refine wpAnyH_take (i := 10) (v := ?_) (by simp only [gA, gB, gC]; rfl) (by kernel_rfl) (by kernel_rfl) (by kernel_rfl) (by exact fun _ _ _ h => h) (Or.inl ⟨by rfl, ?_⟩) (by assumption) ?_; rotate_left; (focus (intro w hSw; (try dsimp only at hSw); go_simp; try with_reducible rfl)); (try simp only [Act.put, sA, sB, sC])
    refine wpAnyH_take (i := 11) (v := ?_) (by simp only [gA, gB, gC]; rfl) (by kernel_rfl) (by kernel_rfl) (by kernel_rfl) (by exact fun _ _ _ h => h) (Or.inl ⟨by rfl, ?_⟩) (by assumption) ?_; rotate_left; (focus (intro w hSw; (try dsimp only at hSw); go_simp; try with_reducible rfl)); (try simp only [Act.put, sA, sB, sC])
    refine wpAnyH_ready (rs := [12]) (by kernel_rfl) (by simp) ?_
    refine AllReadyH.cons (by simp only [gA, gB, gC]; rfl) (fun K hK => ?_) AllReadyH.nil
    have hXC := hXB.setStk v2
    have hfC := far_blk hfB (show bx ≠ bk by omega) 16 v2
    have hqC := far_blk hqB (show bx ≠ w.heap.size by omega) 16 v2
    have hoC := hoB.keep (w' := WB.setCell ⟨bx, 16, none⟩ v2) (fun j hj => heap_setCell_other _ ⟨bx, 16, none⟩ j _ (fun e => hvB (by rw [hj]; exact congrArg some e.symm)))
    have hBC := (hB9.trans hbB).setCell (p := ⟨bx, 16, none⟩) hLx v2
    refine step_st rfl _ _ rfl ⟨bx, 16, none⟩ rfl v2 rfl (crs_store _ _ _ _ hv2 hXB.stk (hXB.free (by decide))) ?_
    (try simp only [Act.put, sA, sB, sC])
    refine hK.out _ _ (hfC) ?_
    clear hHeld hK
    intro hHeld
    generalize WB.setCell ⟨bx, 16, none⟩ v2 = WC at *
    clear hXB hfB hqB hoB hgB hbB hbA hXA hfA hX9 hf9 hq9 hO9 hL9 hB9 hv2
    (try simp only [Act.put, sA, sB, sC])
    refine wpAnyH_done (by kernel_rfl) ?_ _
    have z0 := (hqC.1 0 _ rfl).1
    have z1 := (hqC.1 1 _ rfl).1
    have ke := center_any bx d v2 (memI bm :: r) ⟨q.s, q.f, CN⟩ WC hXC
    rw [show (frc ⟨q.s, q.f, CN⟩).toArray = #[.int .i64 q.s, .int .i64 q.f, .int .i64 CN] from rfl] at ke
    go_wp2_with fail
    refine ke.mono ?_
    rintro e WD ⟨⟨re, rfl⟩, hXD, hSD⟩
    have hfD := hSD.blk hfC (by omega)
    have hoD := hSD.own hoC (fun e => hvB e.symm)
    have hBD := hSD.below hBC hLx (by have := hXC.lt; omega)
    have z2 := (hfD.1 2 _ rfl).1
    clear ke hXC hfC hqC hoC hBC hSD z0 z1
    go_wp2_with fail
    refine (cweaken_any bx _ v2 (memI bm :: r) d.ring WD hXD).mono ?_
    rintro e WE ⟨⟨re2, rfl⟩, hXE, hSE⟩
    have hoE := hSE.own hoD (fun e => hvB e.symm)
    have hBE := hSE.below hBD hLx (by have := hXD.lt; omega)
    clear hXD hfD hoD hBD hSE z2
    go_wp2_with fail
    refine bodyPost_end (v := .tuple #[]) (by simp [results, Try.results61, go_sem]) rfl ?_
    refine .inr ⟨hEE.out, ⟨_, rfl⟩, v2, ?_, hoE, hBE⟩
    rw [clD, hCN.out]
    exact hXE.any _
  refine AllReadyH.cons (by simp only [gA, gB, gC]; rfl) (fun K hK => ?_) AllReadyH.nil
  refine step_build1 fr_okC (by decide) rfl _ rfl (frc ⟨d.seg, d.off, d.ring⟩) rfl rfl ?_
  (try simp only [Act.put, sA, sB, sC])
  refine hK.out _ _ (hfA) ?_
  clear hHeld hK
  intro hHeld
  (try simp only [Act.put, sA, sB, sC])
  refine wpAnyH_ready (rs := [5]) (by kernel_rfl) (by simp) ?_
  refine AllReadyH.cons (by simp only [gA, gB, gC]; rfl) (fun K hK => ?_) AllReadyH.nil
  refine step_oneJ rfl _ rfl ⟨bx, 16, none⟩ rfl v hXA.stk crs_load ?_
  (try simp only [Act.put, sA, sB, sC])
  refine hK.out _ _ (hfA) ?_
  clear hHeld hK
  intro hHeld
  (try simp only [Act.put, sA, sB, sC])
  refine wpAnyH_ready (rs := [8]) (by kernel_rfl) (by simp) ?_
  refine AllReadyH.cons (by simp only [gA, gB, gC]; rfl) (fun K hK => ?_) AllReadyH.nil
  refine step_append rfl _ _ rfl rfl rfl rfl hap ?_
  (try simp only [Act.put, sA, sB, sC])
  refine hK.out _ _ (hfB) ?_
  clear hHeld hK
  intro hHeld
  clear hap
  (try simp only [Act.put, sA, sB, sC])
  refine wpAnyH_take (i := 9) (v := ?_) (by simp only [gA, gB, gC]; rfl) (by kernel_rfl) (by kernel_rfl) (by kernel_rfl) (by exact fun _ _ _ h => h) (Or.inl ⟨by rfl, ?_⟩) (by assumption) ?_; rotate_left; (focus (intro w hSw; (try dsimp only at hSw); go_simp; try with_reducible rfl)); (try simp only [Act.put, sA, sB, sC])
  refine wpAnyH_take (i := 10) (v := ?_) (by simp only [gA, gB, gC]; rfl) (by kernel_rfl) (by kernel_rfl) (by kernel_rfl) (by exact fun _ _ _ h => h) (Or.inl ⟨by rfl, ?_⟩) (by assumption) ?_; rotate_left; (focus (intro w hSw; (try dsimp only at hSw); go_simp; try with_reducible rfl)); (try simp only [Act.put, sA, sB, sC])
  refine wpAnyH_take (i := 11) (v := ?_) (by simp only [gA, gB, gC]; rfl) (by kernel_rfl) (by kernel_rfl) (by kernel_rfl) (by exact fun _ _ _ h => h) (Or.inl ⟨by rfl, ?_⟩) (by assumption) ?_; rotate_left; (focus (intro w hSw; (try dsimp only at hSw); go_simp; try with_reducible rfl)); (try simp only [Act.put, sA, sB, sC])
  refine wpAnyH_ready (rs := [12]) (by kernel_rfl) (by simp) ?_
  refine AllReadyH.cons (by simp only [gA, gB, gC]; rfl) (fun K hK => ?_) AllReadyH.nil
  have hXC := hXB.setStk v2
  have hfC := far_blk hfB (show bx ≠ bk by omega) 16 v2
  have hqC := far_blk hqB (show bx ≠ w.heap.size by omega) 16 v2
  have hoC := hoB.keep (w' := WB.setCell ⟨bx, 16, none⟩ v2) (fun j hj => heap_setCell_other _ ⟨bx, 16, none⟩ j _ (fun e => hvB (by rw [hj]; exact congrArg some e.symm)))
  have hBC := (hB9.trans hbB).setCell (p := ⟨bx, 16, none⟩) hLx v2
  refine step_st rfl _ _ rfl ⟨bx, 16, none⟩ rfl v2 rfl (crs_store _ _ _ _ hv2 hXB.stk (hXB.free (by decide))) ?_
  (try simp only [Act.put, sA, sB, sC])
  refine hK.out _ _ (hfC) ?_
  clear hHeld hK
  intro hHeld
  generalize WB.setCell ⟨bx, 16, none⟩ v2 = WC at *
  clear hXB hfB hqB hoB hgB hbB hbA hXA hfA hX9 hf9 hq9 hO9 hL9 hB9 hv2
  (try simp only [Act.put, sA, sB, sC])
  refine wpAnyH_done (by kernel_rfl) ?_ _
  have z0 := (hqC.1 0 _ rfl).1
  have z1 := (hqC.1 1 _ rfl).1
  have ke := center_any bx d v2 (memI bm :: r) ⟨q.s, q.f, CN⟩ WC hXC
  rw [show (frc ⟨q.s, q.f, CN⟩).toArray = #[.int .i64 q.s, .int .i64 q.f, .int .i64 CN] from rfl] at ke
  go_wp2_with fail
  refine ke.mono ?_
  rintro e WD ⟨⟨re, rfl⟩, hXD, hSD⟩
  have hfD := hSD.blk hfC (by omega)
  have hoD := hSD.own hoC (fun e => hvB e.symm)
  have hBD := hSD.below hBC hLx (by have := hXC.lt; omega)
  have z2 := (hfD.1 2 _ rfl).1
  clear ke hXC hfC hqC hoC hBC hSD z0 z1
  go_wp2_with fail
  refine (cweaken_any bx _ v2 (memI bm :: r) d.ring WD hXD).mono ?_
  rintro e WE ⟨⟨re2, rfl⟩, hXE, hSE⟩
  have hoE := hSE.own hoD (fun e => hvB e.symm)
  have hBE := hSE.below hBD hLx (by have := hXD.lt; omega)
  clear hXD hfD hoD hBD hSE z2
  go_wp2_with fail
  refine bodyPost_end (v := .tuple #[]) (by simp [results, Try.results61, go_sem]) rfl ?_
  refine .inr ⟨hEE.out, ⟨_, rfl⟩, v2, ?_, hoE, hBE⟩
  rw [clD, hCN.out]
  exact hXE.any _
end Go.Proofs.Ytinibccphecdfaa

/-! PACKAGE cpu AS IT LANDED: ret. Written by mk_cpufnk.py. -/
namespace Go.Proofs.Ytinibccphecdfaa
open Go.RowKit
set_option maxRecDepth 8000
set_option linter.unusedSimpArgs false
set_option linter.unusedVariables false

/-- The first k of a row of one's own. -/
theorem own_short {w : World} {L : Nat} {v : Value} {l : List Fr} (h : OwnR 84 3 frc w L v l) (k : Nat) (hk : k ≤ l.length) (hp : 0 < l.length) :
    ∃ a n cap u, v = .slice (some a) n cap ∧ n = l.length ∧ (∃ a2 c2, u = .slice a2 k c2) ∧ (∀ W, (Instr.slice 26 (.slice (some a) n cap) none (some (.int .i64 (k : Int))) none).run Try.prog W = .ok u W) ∧ OwnR 84 3 frc w L u (l.take k) ∧ u.ownBlock = v.ownBlock := by
  rcases h.2 with ⟨_, h2⟩ | ⟨g, cap, cur, hv, hg, hh, hc, hm, hs, ht⟩
  · omega
  refine ⟨⟨g, 0, none⟩, l.length, cap, .slice (some ⟨g, 0, none⟩) k cap, hv, rfl, ⟨_, _, rfl⟩, fun W => ?_, ⟨?_, .inr ⟨g, cap, cur, ?_, hg, hh, ?_, hm, hs, ?_⟩⟩, ?_⟩
  · obtain ⟨i, z, b, hi, hz, hsz, _⟩ := fr_okC.info
    have ht : Try.prog.elem 26 = 84 := by kernel_rfl
    rw [run_slice_h (P := Try.prog) W 26 (some ⟨g, 0, none⟩) l.length cap (by rw [ht]; exact fr_okC.und) .i64 (k : Int) (by omega) (by omega), ht]
    have hc0 : ¬ cap = 0 := by omega
    simp [sizeOf, typeInfo, hi, hsz, sliced, hc0, add_at]
  · rw [flat_length frc_len, List.length_take, Nat.min_eq_left hk]
  · rw [List.length_take, Nat.min_eq_left hk]
  · rw [List.length_take, Nat.min_eq_left hk]; omega
  · rw [List.length_take, Nat.min_eq_left hk]
    have h1 : (l.flatMap frc).take (k * 3) = (l.take k).flatMap frc := by
      have h2 : l.flatMap frc = (l.take k).flatMap frc ++ (l.drop k).flatMap frc := by rw [← List.flatMap_append, List.take_append_drop]
      rw [h2, List.take_append_of_le_length (by rw [flat_length frc_len, List.length_take, Nat.min_eq_left hk]; exact Nat.le_refl _), List.take_of_length_le (by rw [flat_length frc_len, List.length_take, Nat.min_eq_left hk]; exact Nat.le_refl _)]
    rw [← h1, ← ht, List.take_take, Nat.min_eq_left (by omega)]
  · rw [hv]; rfl
def rtD (d : Cp) : Cp := raiseC { d with seg := (lastF d).s, off := (lastF d).f, ring := (lastF d).r, st := d.st.take (d.st.length - 1) } (lastF d).r
set_option maxRecDepth 8000 in
set_option maxHeartbeats 8000000 in
theorem cret_any (bx L : Nat) (d : Cp) (v : Value) (r : List Value) (hst : d.st.length ≤ 8) (E : Int) (hE : rtE d = E) (w : World) (hX : XAt bx d v r w) (hO : OwnR 84 3 frc w L v d.st) (hLx : L ≤ bx) (hvx : v.ownBlock ≠ some bx) :
    Calls Try.prog 62 #[.pointer (some ⟨bx, 0, none⟩)] w (ClP bx L (rtD d) r E w) := by
  have hundF := Try.underlying84
  have hszF : (Try.prog.info? 84).map (·.size) = some 3 := by kernel_rfl
  have hbx := hX.lt
  have hvk : ∀ k, v.ownBlock = some k → k < w.heap.size := fun k hk => (hO.lt hk).2
  by_cases c0 : d.st.length = 0
  · have e37 : E = 37 := by rw [← hE, rtE, if_pos c0]
    subst e37
    obtain ⟨va, vc, hv, -, -, -⟩ := hO.slice frc_len
    rw [c0] at hv
    have y16 := hX.stk
    rw [hv] at y16
    clear hE hX hO hv c0 hvx hvk
    go_enter Try.func62, Try.ntmps62
    go_wp2_with fail
    refine (need_no 37 w).mono ?_
    rintro e W1 ⟨rfl, rfl⟩
    go_wp2_with fail
    exact diedC (.inl ⟨by decide, rfl, Below.refl _ _⟩)
  obtain ⟨k, hk⟩ : ∃ k : Nat, d.st.length = k + 1 := ⟨d.st.length - 1, by omega⟩
  obtain ⟨va, vn, vc, u, hv, hvn, ⟨ua, uc, huu⟩, hsl, hOu, hub⟩ := own_short hO k (by omega) (by omega)
  obtain ⟨f, hf⟩ : ∃ f, d.st[k]? = some f := ⟨_, List.getElem?_eq_getElem (by omega)⟩
  have hlf : lastF d = f := by unfold lastF; rw [hk, Nat.add_sub_cancel, List.getD_eq_getElem?_getD, hf]; rfl
  have htk : d.st.take (d.st.length - 1) = d.st.take k := by rw [hk, Nat.add_sub_cancel]
  have hrow := (hO.slice frc_len)
  obtain ⟨ra, rc, hrv, -, -, hrow⟩ := hrow
  rw [hv] at hrv
  injection hrv with hra hrn hrc
  subst hra
  have hcl := hrow.at frc_len hf
  have hva : (va.add (k * 3)).block < w.heap.size := World.block_lt_of_cell? _ _ (hcl 0 _ rfl)
  have y16 := hX.stk
  have hgt : rtD d = raiseC { d with seg := f.s, off := f.f, ring := f.r, st := d.st.take k } f.r := by unfold rtD; rw [hlf, htk]
  have hEE : E = if f.r < d.ring then 34 else 0 := by rw [← hE, rtE, if_neg c0, hlf]
  rw [hgt]
  have hvb : Aside (u.ownBlock = v.ownBlock) := hub
  rw [hv] at y16
  rw [hvn, hk] at y16 hsl
  have i0 : IntKind.i64.wrap (((k + 1 : Nat) : Int) - 1) = (k : Int) := by rw [IntKind.wrap_i64]; omega
  have i1 : (k : Int) < ((k + 1 : Nat) : Int) := by omega
  have i2 : (0 : Int) ≤ (k : Int) := by omega
  have i3 : ¬ (k : Int) < 0 := by omega
  replace hEE : Aside (E = if f.r < d.ring then 34 else 0) := hEE
  have hkk : Aside (d.st.length = k + 1) := hk
  have hcl' : Aside (CellsAt w (va.add (k * 3)) (frc f)) := hcl
  have hvv0 : v = .slice (some va) (k + 1) vc := by rw [hv, hvn, hk]
  clear hE c0 hv hvn hub hf hlf htk hrow hrn hrc hgt hk hcl
  obtain ⟨n1, hn1⟩ : ∃ n1 : Nat, k + 1 = n1 := ⟨_, rfl⟩
  rw [hn1] at y16 hsl i0 i1
  have i4 : ¬ (n1 : Int) ≤ (k : Int) := by omega
  have hvv : Aside (v = .slice (some va) n1 vc) := by rw [← hn1]; exact hvv0
  replace hn1 : Aside (k + 1 = n1) := hn1
  clear hvv0
  go_enter Try.func62, Try.ntmps62
  go_wp2_with fail
  refine (need_ok 37 w).mono ?_
  rintro e W1 ⟨rfl, hw1⟩
  rw [hw1]
  clear hw1 W1
  obtain ⟨W2, hW2, hth2, hf2, hB2⟩ := put_new w (frc ⟨0, 0, 0⟩).toArray 84 (frc f) rfl (by show 0 < 3; decide)
  go_upto_region 3 with (first | (refine wpList_load_at rfl _ rfl (va.add (k * 3)) rfl (frc f) hcl'.out hundF rfl hszF ?_) | (refine wpList_store_row rfl _ _ rfl w.heap.size rfl (frc f) rfl hth2 hszF (frc_one _) hW2 ?_) | fail)
  clear hW2 hth2 y16 hcl'
  have hX2 := hX.keep hB2
  have hO2 := hO.below hB2
  have hS0 := (Below.refl W2.heap.size W2).drew
  by_cases c1 : f.r < d.ring
  · have hE3 : Aside (E = 34) := by
      show _ = _
      rw [hEE.out, if_pos c1]
    have qq : decide (d.ring ≤ f.r) = false := by simp; omega
    clear hEE c1
    refine wp_region_held_drew (S := (fun W => Below W2.heap.size W2 W)) (by kernel_rfl) (by exact hS0) ?_
    intro hHeld
    generalize W2.drew = w0 at *
    refine wpAnyH_take (i := 0) (v := ?_) (by simp only [gA, gB, gC]; rfl) (by kernel_rfl) (by kernel_rfl) (by kernel_rfl) (by exact fun _ _ _ h => h) (Or.inl ⟨by rfl, ?_⟩) (by assumption) ?_; rotate_left; (focus (intro w hSw; (try dsimp only at hSw); go_simp; try with_reducible rfl)); (try simp only [Act.put, sA, sB, sC, qq])
    refine wpAnyH_take (i := 1) (v := _) (by simp only [gA, gB, gC]; rfl) (by kernel_rfl) (by kernel_rfl) (by kernel_rfl) (by exact fun _ _ _ h => h) (yields_cellI (by rfl) _ rfl ⟨w.heap.size, 2, none⟩ rfl (.int .i64 f.r) (fun _ q => ((stab_blk _ _ _ _ hf2 q).1 2 _ rfl).1) intI_load) (by assumption) ?_; (try simp only [Act.put, sA, sB, sC, qq])
    refine wpAnyH_take (i := 2) (v := ?_) (by simp only [gA, gB, gC]; rfl) (by kernel_rfl) (by kernel_rfl) (by kernel_rfl) (by exact fun _ _ _ h => h) (Or.inl ⟨by rfl, ?_⟩) (by assumption) ?_; rotate_left; (focus (intro w hSw; (try dsimp only at hSw); go_simp; try with_reducible rfl)); (try simp only [Act.put, sA, sB, sC, qq])
    refine wpAnyH_take (i := 3) (v := ?_) (by simp only [gA, gB, gC]; rfl) (by kernel_rfl) (by kernel_rfl) (by kernel_rfl) (by exact fun _ _ _ h => h) (Or.inl ⟨by rfl, ?_⟩) (by assumption) ?_; rotate_left; (focus (intro w hSw; (try dsimp only at hSw); go_simp; try with_reducible rfl)); (try simp only [Act.put, sA, sB, sC, qq])
    refine wpAnyH_take (i := 4) (v := ?_) (by simp only [gA, gB, gC]; rfl) (by kernel_rfl) (by kernel_rfl) (by kernel_rfl) (by exact fun _ _ _ h => h) (Or.inl ⟨by rfl, ?_⟩) (by assumption) ?_; rotate_left; (focus (intro w hSw; (try dsimp only at hSw); go_simp; try with_reducible rfl)); (try simp only [Act.put, sA, sB, sC, qq])
    refine wpAnyH_take (i := 5) (v := ?_) (by simp only [gA, gB, gC]; rfl) (by kernel_rfl) (by kernel_rfl) (by kernel_rfl) (by exact fun _ _ _ h => h) (Or.inl ⟨by rfl, ?_⟩) (by assumption) ?_; rotate_left; (focus (intro w hSw; (try dsimp only at hSw); go_simp; try with_reducible rfl)); (try simp only [Act.put, sA, sB, sC, qq])
    refine wpAnyH_take (i := 6) (v := _) (by simp only [gA, gB, gC]; rfl) (by kernel_rfl) (by kernel_rfl) (by kernel_rfl) (by exact fun _ _ _ h => h) (yields_cellI (by rfl) _ rfl ⟨bx, 2, none⟩ rfl (.int .i64 d.ring) (fun _ q => (hX2.keep q).ring) intI_load) (by assumption) ?_; (try simp only [Act.put, sA, sB, sC, qq])
    refine wpAnyH_take (i := 7) (v := ?_) (by simp only [gA, gB, gC]; rfl) (by kernel_rfl) (by kernel_rfl) (by kernel_rfl) (by exact fun _ _ _ h => h) (Or.inl ⟨by rfl, ?_⟩) (by assumption) ?_; rotate_left; (focus (intro w hSw; (try dsimp only at hSw); go_simp; try with_reducible rfl)); (try simp only [Act.put, sA, sB, sC, qq])
    refine wpAnyH_ready (rs := [8]) (by kernel_rfl) (by simp) ?_
    refine AllReadyH.cons (by simp only [gA, gB, gC]; rfl) (fun K hK => ?_) AllReadyH.nil
    go_simp
    go_at_call 64
    refine (needB_no 34 w0).mono ?_
    rintro e w1 ⟨rfl, hb⟩
    exact (show _ ∧ _ from ⟨rfl, .inl ⟨by rw [hE3.out]; decide, by rw [hE3.out], Below.then hB2 (Below.then hS0 hb)⟩⟩)
  have hE3 : Aside (E = 0) := by
    show _ = _
    rw [hEE.out, if_neg c1]
  have qq : decide (d.ring ≤ f.r) = true := by simp; omega
  clear hEE c1
  refine wp_region_held_drew (S := (fun W => Below W2.heap.size W2 W)) (by kernel_rfl) (by exact hS0) ?_
  intro hHeld
  generalize W2.drew = w0 at *
  refine wpAnyH_take (i := 0) (v := ?_) (by simp only [gA, gB, gC]; rfl) (by kernel_rfl) (by kernel_rfl) (by kernel_rfl) (by exact fun _ _ _ h => h) (Or.inl ⟨by rfl, ?_⟩) (by assumption) ?_; rotate_left; (focus (intro w hSw; (try dsimp only at hSw); go_simp; try with_reducible rfl)); (try simp only [Act.put, sA, sB, sC, qq])
  refine wpAnyH_take (i := 1) (v := _) (by simp only [gA, gB, gC]; rfl) (by kernel_rfl) (by kernel_rfl) (by kernel_rfl) (by exact fun _ _ _ h => h) (yields_cellI (by rfl) _ rfl ⟨w.heap.size, 2, none⟩ rfl (.int .i64 f.r) (fun _ q => ((stab_blk _ _ _ _ hf2 q).1 2 _ rfl).1) intI_load) (by assumption) ?_; (try simp only [Act.put, sA, sB, sC, qq])
  refine wpAnyH_take (i := 2) (v := ?_) (by simp only [gA, gB, gC]; rfl) (by kernel_rfl) (by kernel_rfl) (by kernel_rfl) (by exact fun _ _ _ h => h) (Or.inl ⟨by rfl, ?_⟩) (by assumption) ?_; rotate_left; (focus (intro w hSw; (try dsimp only at hSw); go_simp; try with_reducible rfl)); (try simp only [Act.put, sA, sB, sC, qq])
  refine wpAnyH_take (i := 3) (v := ?_) (by simp only [gA, gB, gC]; rfl) (by kernel_rfl) (by kernel_rfl) (by kernel_rfl) (by exact fun _ _ _ h => h) (Or.inl ⟨by rfl, ?_⟩) (by assumption) ?_; rotate_left; (focus (intro w hSw; (try dsimp only at hSw); go_simp; try with_reducible rfl)); (try simp only [Act.put, sA, sB, sC, qq])
  refine wpAnyH_take (i := 4) (v := ?_) (by simp only [gA, gB, gC]; rfl) (by kernel_rfl) (by kernel_rfl) (by kernel_rfl) (by exact fun _ _ _ h => h) (Or.inl ⟨by rfl, ?_⟩) (by assumption) ?_; rotate_left; (focus (intro w hSw; (try dsimp only at hSw); go_simp; try with_reducible rfl)); (try simp only [Act.put, sA, sB, sC, qq])
  refine wpAnyH_take (i := 5) (v := ?_) (by simp only [gA, gB, gC]; rfl) (by kernel_rfl) (by kernel_rfl) (by kernel_rfl) (by exact fun _ _ _ h => h) (Or.inl ⟨by rfl, ?_⟩) (by assumption) ?_; rotate_left; (focus (intro w hSw; (try dsimp only at hSw); go_simp; try with_reducible rfl)); (try simp only [Act.put, sA, sB, sC, qq])
  refine wpAnyH_take (i := 6) (v := _) (by simp only [gA, gB, gC]; rfl) (by kernel_rfl) (by kernel_rfl) (by kernel_rfl) (by exact fun _ _ _ h => h) (yields_cellI (by rfl) _ rfl ⟨bx, 2, none⟩ rfl (.int .i64 d.ring) (fun _ q => (hX2.keep q).ring) intI_load) (by assumption) ?_; (try simp only [Act.put, sA, sB, sC, qq])
  refine wpAnyH_take (i := 7) (v := ?_) (by simp only [gA, gB, gC]; rfl) (by kernel_rfl) (by kernel_rfl) (by kernel_rfl) (by exact fun _ _ _ h => h) (Or.inl ⟨by rfl, ?_⟩) (by assumption) ?_; rotate_left; (focus (intro w hSw; (try dsimp only at hSw); go_simp; try with_reducible rfl)); (try simp only [Act.put, sA, sB, sC, qq])
  refine wpAnyH_ready (rs := [8]) (by kernel_rfl) (by simp) ?_
  refine AllReadyH.cons (by simp only [gA, gB, gC]; rfl) (fun K hK => ?_) AllReadyH.nil
  go_simp
  go_at_call 64
  refine (needB_ok 34 w0).mono ?_
  rintro e w1 ⟨rfl, hb⟩
  have hS1 := Below.then hS0 hb
  clear hb
  refine hK.out _ _ (by exact hS1) ?_
  clear hHeld hK
  intro hHeld
  (try simp only [Act.put, sA, sB, sC, qq])
  refine wpAnyH_done (by kernel_rfl) ?_ _
  have hX3 := hX2.keep hS1
  have hf3 := stab_blk _ _ _ _ hf2 hS1
  have hB3 := Below.then hB2 hS1
  have hO3 := (hOu.below hB2).below hS1
  clear hX2 hf2 hB2 hO2 hS0 hS1 hX hO hOu
  have y16 := hX3.stk
  rw [hvv.out] at y16
  have hX4 := hX3.setStk u
  have hf4 := far_blk hf3 (show bx ≠ w.heap.size by omega) 16 u
  have hO4 := hO3.keep (w' := w1.setCell ⟨bx, 16, none⟩ u) (fun j hj => heap_setCell_other _ ⟨bx, 16, none⟩ j _ (fun e => hvx (by rw [← hvb.out, hj]; exact congrArg some e)))
  have hB4 := (hB3.mono (show L ≤ w.heap.size by omega)).setCell (p := ⟨bx, 16, none⟩) hLx u
  have yf := hX3.free (i := 16) (by decide)
  have hub : ∀ j, u.ownBlock = some j → j ≠ bx := fun j hj e => hvx (by rw [← hvb.out, hj, e])
  subst huu
  clear hX3 hf3 hO3 hB3 hvb
  go_upto_region 5 with fail
  generalize w1.setCell ⟨bx, 16, none⟩ (.slice ua k uc) = W5 at *
  have hr4 := hf4.range
  have ke := center_any bx d (.slice ua k uc) r f W5 hX4
  go_wp2_with (first | (refine wpList_load_row rfl _ rfl w.heap.size rfl (frc f) hr4 hundF rfl hszF ?_) | fail)
  refine ke.mono ?_
  rintro e W6 ⟨⟨re, rfl⟩, hX6, hS6⟩
  have hf6 := hS6.blk hf4 (by omega)
  have hO6 := hS6.own hO4 (fun e => hub bx e rfl)
  have hB6 := hS6.below hB4 hLx (by have := hX4.lt; omega)
  have z2 := (hf6.1 2 _ rfl).1
  clear ke hX4 hf4 hO4 hB4 hS6 hr4 y16 yf
  go_wp2_with fail
  refine (cweaken_any bx _ (.slice ua k uc) r f.r W6 hX6).mono ?_
  rintro e W7 ⟨⟨re2, rfl⟩, hX7, hS7⟩
  have hO7 := hS7.own hO6 (fun e => hub bx e rfl)
  have hB7 := hS7.below hB6 hLx (by have := hX6.lt; omega)
  clear hX6 hf6 hO6 hB6 hS7 z2
  go_wp2_with fail
  refine bodyPost_end (v := .tuple #[]) (by simp [results, Try.results62, go_sem]) rfl ?_
  exact .inr ⟨hE3.out, ⟨_, rfl⟩, _, hX7.any _, hO7, hB7⟩
end Go.Proofs.Ytinibccphecdfaa

/-! PACKAGE cpu AS IT LANDED: what an operation does (do). Written by mk_cpufnl.py. -/
namespace Go.Proofs.Ytinibccphecdfaa
open Go.RowKit
set_option maxRecDepth 8000
set_option linter.unusedSimpArgs false
set_option linter.unusedVariables false

/-- A step that was fetched: from the word behind it. -/
def opD (d : Cp) (m : List Sg) (i : Ins) : Ot :=
  if i.o = 0 then okC { d with hl := true }
  else if i.o = 1 ∨ 4 ≤ i.o ∧ i.o ≤ 11 then (if rdE d m i ≠ 0 then flt (rdE d m i) else okC { d with a := arC i.o d.a (rdW d m i) })
  else if i.o = 2 then (if wrE d m i ≠ 0 then flt (wrE d m i) else ⟨0, d, some ((memP d i).s, (memP d i).f, d.a), 0, false⟩)
  else if i.o = 3 then okC { d with a := i.n }
  else if i.o = 12 then okC { d with a := toW (floatOfInt .f64 d.a) }
  else if i.o = 13 then (if toE d.a ≠ 0 then flt 36 else okC { d with a := toV d.a })
  else if 14 ≤ i.o ∧ i.o ≤ 16 then okC (jmpC d i)
  else if i.o = 17 then okC { d with ps := d.ps.set i.p.toNat ⟨(wPtr d.a).s, (wPtr d.a).f, gmax (wPtr d.a).r d.ring⟩ }
  else if i.o = 18 then (if rdE d m i ≠ 0 then flt (rdE d m i) else okC { d with ps := d.ps.set i.p.toNat (follow (wPtr (rdW d m i)) (mSeg d m i).rg (mRing d i)) })
  else if i.o = 19 then okC { d with a := ptrW (pAt d i.p) }
  else if i.o = 20 then (if clG (mSeg d m i) (memP d i) d.st.length ≠ 0 then flt (clG (mSeg d m i) (memP d i) d.st.length) else okC (clD d (mSeg d m i) (memP d i)))
  else if i.o = 21 then (if rtE d ≠ 0 then flt (rtE d) else okC (rtD d))
  else if i.o = 22 then ⟨0, d, none, d.a, true⟩
  else okC d
/-- What is written behind a step: nothing, or a word noted. -/
def Wr (bm L : Nat) (sl : Value) (n : Int) (w : World) : Option (Int × Int × Int) → World → Prop
  | none, w' => Below L w w'
  | some p, w' => BlkL bm (memCs sl true p.1 p.2.1 p.2.2 (n + 1)) w' ∧ Sole bm w w'
abbrev rest3 (bm : Nat) (o : Int) (t : Bool) : List Value := [memI bm, .int .i64 o, .bool t]
/-- What an operation comes to. -/
def DoP (bx bm L : Nat) (sl : Value) (n : Int) (O : Ot) (w : World) (e : Ending) (w' : World) : Prop :=
  (O.e ≠ 0 ∧ e = .panicked (thr O.e) ∧ Below w.heap.size w w') ∨ (O.e = 0 ∧ (∃ q, e = .returned q) ∧ ∃ v', XAt bx O.t v' (rest3 bm O.v O.told) w' ∧ OwnR 84 3 frc w' L v' O.t.st ∧ Wr bm L sl n w O.wr w')
theorem DoP.no {bx bm L : Nat} {sl : Value} {n : Int} {w w' : World} {e : Ending} {E : Int} (hE : E ≠ 0) (he : e = .panicked (thr E)) (hb : Below w.heap.size w w') : DoP bx bm L sl n (flt E) w e w' := .inl ⟨hE, he, hb⟩
theorem DoP.ok {bx bm L : Nat} {sl : Value} {n : Int} {w w' : World} {t : Cp} (v' q : Value) (hX : XAt bx t v' (rest3 bm 0 false) w') (hO : OwnR 84 3 frc w' L v' t.st) (hB : Below L w w') : DoP bx bm L sl n (okC t) w (.returned q) w' := .inr ⟨rfl, ⟨q, rfl⟩, v', hX, hO, hB⟩
theorem own_set {bx L : Nat} {W : World} {v : Value} {l : List Fr} (h : OwnR 84 3 frc W L v l) (hn : v.ownBlock ≠ some bx) (i : Nat) (u : Value) : OwnR 84 3 frc (W.setCell ⟨bx, i, none⟩ u) L v l :=
  h.keep fun k hk => heap_setCell_other _ ⟨bx, i, none⟩ k _ (fun e => hn (by rw [hk]; exact congrArg some e))
theorem bool_store (w : World) (y : Addr) (u : Value) (x : Bool) (hc : w.cell? y = some u) (hf : w.frozen? y = false) : (Instr.storeAt 4 (.pointer (some y)) (.bool x)).run Try.prog w = .ok () (w.setCell y (.bool x)) := by
  have h1 := Try.underlying4
  go_simp
/-- What is asked of a step that is under way. -/
structure XO (bx bm L : Nat) (a : Option Addr) (cap : Nat) (m : List PG) (is : Bool) (s o y n : Int) (d : Cp) (v : Value) (w : World) : Prop where
  mg : MG m
  ok : d.Ok
  x : XAt bx d v (rest3 bm 0 false) w
  own : OwnR 84 3 frc w L v d.st
  mem : BlkL bm (memCs (.slice a m.length cap) is s o y n) w
  row : RowG w a m
  nb : 0 ≤ n ∧ n < 1000000
  lx : L ≤ bx
  bl : bm < L
  vx : v.ownBlock ≠ some bx
theorem XO.keep {bx bm L : Nat} {a : Option Addr} {cap : Nat} {m : List PG} {is : Bool} {s o y n : Int} {d : Cp} {v : Value} {w w' : World} (h : XO bx bm L a cap m is s o y n d v w) (hb : Below w.heap.size w w') : XO bx bm L a cap m is s o y n d v w' :=
  ⟨h.mg, h.ok, h.x.keep hb, h.own.below hb, stab_blk _ _ _ _ h.mem hb, h.row.below hb, h.nb, h.lx, h.bl, h.vx⟩
theorem XO.at {bx bm L : Nat} {a : Option Addr} {cap : Nat} {m : List PG} {is : Bool} {s o y n : Int} {d : Cp} {v : Value} {w : World} (h : XO bx bm L a cap m is s o y n d v w) : MAt bm a cap m w := ⟨(h.mem.1 0 _ rfl).1, h.row⟩
set_option maxRecDepth 8000 in
set_option maxHeartbeats 4000000 in
theorem cdo0 {bx bm L : Nat} {a : Option Addr} {cap : Nat} {m : List PG} {is : Bool} {s o y n : Int} {d : Cp} {v : Value} {w : World} (h : XO bx bm L a cap m is s o y n d v w) (p nn : Int) (hi : insE ⟨0, p, nn⟩ = 0) :
    Calls Try.prog 35 #[.pointer (some ⟨bx, 0, none⟩), .agg #[.int .i64 0, .int .i64 p, .int .i64 nn]] w (DoP bx bm L (.slice a m.length cap) n (opD d (m.map (·.g)) ⟨0, p, nn⟩) w) := by
  have hundI := Try.underlying64
  have hszI : (Try.prog.info? 64).map (·.size) = some 3 := by kernel_rfl
  have hi0 := blkl_alloc w (ins3 ⟨0, p, nn⟩).toArray 64
  have hB0 := alloc_below w (.cells (ins3 ⟨0, p, nn⟩).toArray 64)
  have h0 := h.keep hB0
  have hbx := h.x.lt
  have hLw : L ≤ w.heap.size := by have := h.lx; omega
  replace hi0 : BlkL w.heap.size (ins3 ⟨0, p, nn⟩) (w.alloc (.cells #[.int .i64 0, .int .i64 p, .int .i64 nn] 64)) := hi0
  replace hB0 : Below w.heap.size w (w.alloc (.cells #[.int .i64 0, .int .i64 p, .int .i64 nn] 64)) := hB0
  replace h0 : XO bx bm L a cap m is s o y n d v (w.alloc (.cells #[.int .i64 0, .int .i64 p, .int .i64 nn] 64)) := h0
  go_enter Try.func35, Try.ntmps35
  go_upto_region 1 with fail
  generalize w.alloc (.cells #[.int .i64 0, .int .i64 p, .int .i64 nn] 64) = W0 at *
  have x0 := (hi0.1 0 _ rfl).1
  have hri := hi0.range
  have y17 := h0.x.hl
  have yf := h0.x.free (i := 17) (by decide)
  have hX2 := h0.x.setHl true
  have hO2 := own_set h0.own h0.vx 17 (.bool true)
  have hB2 := (hB0.mono hLw).setCell (p := ⟨bx, 17, none⟩) h.lx (.bool true)
  go_wp2_with fail
  refine bodyPost_end (v := .tuple #[]) (by simp [results, Try.results35, go_sem]) rfl ?_
  exact .ok v _ hX2 hO2 hB2
set_option maxRecDepth 8000 in
set_option maxHeartbeats 4000000 in
theorem cdo3 {bx bm L : Nat} {a : Option Addr} {cap : Nat} {m : List PG} {is : Bool} {s o y n : Int} {d : Cp} {v : Value} {w : World} (h : XO bx bm L a cap m is s o y n d v w) (p nn : Int) (hi : insE ⟨3, p, nn⟩ = 0) :
    Calls Try.prog 35 #[.pointer (some ⟨bx, 0, none⟩), .agg #[.int .i64 3, .int .i64 p, .int .i64 nn]] w (DoP bx bm L (.slice a m.length cap) n (opD d (m.map (·.g)) ⟨3, p, nn⟩) w) := by
  have hundI := Try.underlying64
  have hszI : (Try.prog.info? 64).map (·.size) = some 3 := by kernel_rfl
  have hi0 := blkl_alloc w (ins3 ⟨3, p, nn⟩).toArray 64
  have hB0 := alloc_below w (.cells (ins3 ⟨3, p, nn⟩).toArray 64)
  have h0 := h.keep hB0
  have hbx := h.x.lt
  have hLw : L ≤ w.heap.size := by have := h.lx; omega
  replace hi0 : BlkL w.heap.size (ins3 ⟨3, p, nn⟩) (w.alloc (.cells #[.int .i64 3, .int .i64 p, .int .i64 nn] 64)) := hi0
  replace hB0 : Below w.heap.size w (w.alloc (.cells #[.int .i64 3, .int .i64 p, .int .i64 nn] 64)) := hB0
  replace h0 : XO bx bm L a cap m is s o y n d v (w.alloc (.cells #[.int .i64 3, .int .i64 p, .int .i64 nn] 64)) := h0
  go_enter Try.func35, Try.ntmps35
  go_upto_region 1 with fail
  generalize w.alloc (.cells #[.int .i64 3, .int .i64 p, .int .i64 nn] 64) = W0 at *
  have x0 := (hi0.1 0 _ rfl).1
  have hri := hi0.range
  have x2 := (hi0.1 2 _ rfl).1
  have y3 := h0.x.a
  have yf := h0.x.free (i := 3) (by decide)
  have hX2 := h0.x.setA nn
  have hO2 := own_set h0.own h0.vx 3 (.int .i64 nn)
  have hB2 := (hB0.mono hLw).setCell (p := ⟨bx, 3, none⟩) h.lx (.int .i64 nn)
  go_wp2_with fail
  refine bodyPost_end (v := .tuple #[]) (by simp [results, Try.results35, go_sem]) rfl ?_
  exact .ok v _ hX2 hO2 hB2
set_option maxRecDepth 8000 in
set_option maxHeartbeats 4000000 in
theorem cdo22 {bx bm L : Nat} {a : Option Addr} {cap : Nat} {m : List PG} {is : Bool} {s o y n : Int} {d : Cp} {v : Value} {w : World} (h : XO bx bm L a cap m is s o y n d v w) (p nn : Int) (hi : insE ⟨22, p, nn⟩ = 0) :
    Calls Try.prog 35 #[.pointer (some ⟨bx, 0, none⟩), .agg #[.int .i64 22, .int .i64 p, .int .i64 nn]] w (DoP bx bm L (.slice a m.length cap) n (opD d (m.map (·.g)) ⟨22, p, nn⟩) w) := by
  have hundI := Try.underlying64
  have hszI : (Try.prog.info? 64).map (·.size) = some 3 := by kernel_rfl
  have hi0 := blkl_alloc w (ins3 ⟨22, p, nn⟩).toArray 64
  have hB0 := alloc_below w (.cells (ins3 ⟨22, p, nn⟩).toArray 64)
  have h0 := h.keep hB0
  have hbx := h.x.lt
  have hLw : L ≤ w.heap.size := by have := h.lx; omega
  replace hi0 : BlkL w.heap.size (ins3 ⟨22, p, nn⟩) (w.alloc (.cells #[.int .i64 22, .int .i64 p, .int .i64 nn] 64)) := hi0
  replace hB0 : Below w.heap.size w (w.alloc (.cells #[.int .i64 22, .int .i64 p, .int .i64 nn] 64)) := hB0
  replace h0 : XO bx bm L a cap m is s o y n d v (w.alloc (.cells #[.int .i64 22, .int .i64 p, .int .i64 nn] 64)) := h0
  go_enter Try.func35, Try.ntmps35
  go_upto_region 1 with fail
  generalize w.alloc (.cells #[.int .i64 22, .int .i64 p, .int .i64 nn] 64) = W0 at *
  have x0 := (hi0.1 0 _ rfl).1
  have hri := hi0.range
  have y3 := h0.x.a
  have y19 := (h0.x.tails (i := 1) rfl).1
  have yf19 := (h0.x.tails (i := 1) rfl).2
  have y20 := (h0.x.tails (i := 2) rfl).1
  have yf20 := (h0.x.tails (i := 2) rfl).2
  have hX2 := (h0.x.putT (i := 1) (by show 1 < 3; decide) (.int .i64 d.a)).putT (i := 2) (by show 2 < 3; decide) (.bool true)
  have hO2 := own_set (own_set h0.own h0.vx 19 (.int .i64 d.a)) h0.vx 20 (.bool true)
  have hB2 := ((hB0.mono hLw).setCell (p := ⟨bx, 19, none⟩) h.lx (.int .i64 d.a)).setCell (p := ⟨bx, 20, none⟩) h.lx (.bool true)
  go_wp2_with fail
  refine bodyPost_end (v := .tuple #[]) (by simp [results, Try.results35, go_sem]) rfl ?_
  exact .inr ⟨rfl, ⟨_, rfl⟩, v, hX2, hO2, hB2⟩
set_option maxRecDepth 8000 in
set_option maxHeartbeats 4000000 in
theorem cdo12 {bx bm L : Nat} {a : Option Addr} {cap : Nat} {m : List PG} {is : Bool} {s o y n : Int} {d : Cp} {v : Value} {w : World} (h : XO bx bm L a cap m is s o y n d v w) (p nn : Int) (hi : insE ⟨12, p, nn⟩ = 0) :
    Calls Try.prog 35 #[.pointer (some ⟨bx, 0, none⟩), .agg #[.int .i64 12, .int .i64 p, .int .i64 nn]] w (DoP bx bm L (.slice a m.length cap) n (opD d (m.map (·.g)) ⟨12, p, nn⟩) w) := by
  have hundI := Try.underlying64
  have hszI : (Try.prog.info? 64).map (·.size) = some 3 := by kernel_rfl
  have hi0 := blkl_alloc w (ins3 ⟨12, p, nn⟩).toArray 64
  have hB0 := alloc_below w (.cells (ins3 ⟨12, p, nn⟩).toArray 64)
  have h0 := h.keep hB0
  have hbx := h.x.lt
  have hLw : L ≤ w.heap.size := by have := h.lx; omega
  replace hi0 : BlkL w.heap.size (ins3 ⟨12, p, nn⟩) (w.alloc (.cells #[.int .i64 12, .int .i64 p, .int .i64 nn] 64)) := hi0
  replace hB0 : Below w.heap.size w (w.alloc (.cells #[.int .i64 12, .int .i64 p, .int .i64 nn] 64)) := hB0
  replace h0 : XO bx bm L a cap m is s o y n d v (w.alloc (.cells #[.int .i64 12, .int .i64 p, .int .i64 nn] 64)) := h0
  go_enter Try.func35, Try.ntmps35
  go_upto_region 1 with fail
  generalize w.alloc (.cells #[.int .i64 12, .int .i64 p, .int .i64 nn] 64) = W0 at *
  have x0 := (hi0.1 0 _ rfl).1
  have hri := hi0.range
  have k := word_FromInt_any d.a W0
  have y3 := h0.x.a
  have yf := h0.x.free (i := 3) (by decide)
  have hX2 := h0.x.setA (toW (floatOfInt .f64 d.a))
  have hO2 := own_set h0.own h0.vx 3 (.int .i64 (toW (floatOfInt .f64 d.a)))
  have hB2 := (hB0.mono hLw).setCell (p := ⟨bx, 3, none⟩) h.lx (.int .i64 (toW (floatOfInt .f64 d.a)))
  obtain ⟨z, hy⟩ : ∃ z, toW (floatOfInt .f64 d.a) = z := ⟨_, rfl⟩
  rw [hy] at hX2 hO2 hB2 k
  replace hy : Aside (toW (floatOfInt .f64 d.a) = z) := hy
  go_wp2_with fail
  refine k.mono ?_
  rintro e W1 ⟨rfl, hw1⟩
  rw [hw1]
  clear hw1 W1
  go_wp2_with fail
  refine bodyPost_end (v := .tuple #[]) (by simp [results, Try.results35, go_sem]) rfl ?_
  rw [show opD d (m.map (·.g)) ⟨12, p, nn⟩ = okC { d with a := z } by rw [← hy.out]; rfl]
  exact .ok v _ hX2 hO2 hB2
set_option maxRecDepth 8000 in
set_option maxHeartbeats 4000000 in
theorem cdo13 {bx bm L : Nat} {a : Option Addr} {cap : Nat} {m : List PG} {is : Bool} {s o y n : Int} {d : Cp} {v : Value} {w : World} (h : XO bx bm L a cap m is s o y n d v w) (p nn : Int) (hi : insE ⟨13, p, nn⟩ = 0) :
    Calls Try.prog 35 #[.pointer (some ⟨bx, 0, none⟩), .agg #[.int .i64 13, .int .i64 p, .int .i64 nn]] w (DoP bx bm L (.slice a m.length cap) n (opD d (m.map (·.g)) ⟨13, p, nn⟩) w) := by
  have hundI := Try.underlying64
  have hszI : (Try.prog.info? 64).map (·.size) = some 3 := by kernel_rfl
  have hi0 := blkl_alloc w (ins3 ⟨13, p, nn⟩).toArray 64
  have hB0 := alloc_below w (.cells (ins3 ⟨13, p, nn⟩).toArray 64)
  have h0 := h.keep hB0
  have hbx := h.x.lt
  have hLw : L ≤ w.heap.size := by have := h.lx; omega
  replace hi0 : BlkL w.heap.size (ins3 ⟨13, p, nn⟩) (w.alloc (.cells #[.int .i64 13, .int .i64 p, .int .i64 nn] 64)) := hi0
  replace hB0 : Below w.heap.size w (w.alloc (.cells #[.int .i64 13, .int .i64 p, .int .i64 nn] 64)) := hB0
  replace h0 : XO bx bm L a cap m is s o y n d v (w.alloc (.cells #[.int .i64 13, .int .i64 p, .int .i64 nn] 64)) := h0
  go_enter Try.func35, Try.ntmps35
  go_upto_region 1 with fail
  generalize w.alloc (.cells #[.int .i64 13, .int .i64 p, .int .i64 nn] 64) = W0 at *
  have x0 := (hi0.1 0 _ rfl).1
  have hri := hi0.range
  have k := cfix_any bx d v (rest3 bm 0 false) W0 h0.x
  go_wp2_with fail
  refine k.mono ?_
  rintro e W1 (⟨hE, rfl, hw1⟩ | ⟨hE, ⟨q, rfl⟩, hX1, hS1⟩)
  · rw [hw1]
    go_wp2_with fail
    refine diedC ?_
    rw [show opD d (m.map (·.g)) ⟨13, p, nn⟩ = (if toE d.a ≠ 0 then flt 36 else okC { d with a := toV d.a }) from rfl, if_pos hE]
    exact .no (by decide) rfl hB0
  · have hO1 := hS1.own h0.own h0.vx
    have hB1 := hS1.below (hB0.mono hLw) h.lx (Nat.le_trans hLw hB0.size)
    go_wp2_with fail
    refine bodyPost_end (v := .tuple #[]) (by simp [results, Try.results35, go_sem]) rfl ?_
    rw [show opD d (m.map (·.g)) ⟨13, p, nn⟩ = (if toE d.a ≠ 0 then flt 36 else okC { d with a := toV d.a }) from rfl, if_neg (by simpa using hE)]
    exact .ok v _ hX1 hO1 hB1
set_option maxRecDepth 8000 in
set_option maxHeartbeats 4000000 in
theorem cdo14 {bx bm L : Nat} {a : Option Addr} {cap : Nat} {m : List PG} {is : Bool} {s o y n : Int} {d : Cp} {v : Value} {w : World} (h : XO bx bm L a cap m is s o y n d v w) (p nn : Int) (hi : insE ⟨14, p, nn⟩ = 0) :
    Calls Try.prog 35 #[.pointer (some ⟨bx, 0, none⟩), .agg #[.int .i64 14, .int .i64 p, .int .i64 nn]] w (DoP bx bm L (.slice a m.length cap) n (opD d (m.map (·.g)) ⟨14, p, nn⟩) w) := by
  have hundI := Try.underlying64
  have hszI : (Try.prog.info? 64).map (·.size) = some 3 := by kernel_rfl
  have hi0 := blkl_alloc w (ins3 ⟨14, p, nn⟩).toArray 64
  have hB0 := alloc_below w (.cells (ins3 ⟨14, p, nn⟩).toArray 64)
  have h0 := h.keep hB0
  have hbx := h.x.lt
  have hLw : L ≤ w.heap.size := by have := h.lx; omega
  replace hi0 : BlkL w.heap.size (ins3 ⟨14, p, nn⟩) (w.alloc (.cells #[.int .i64 14, .int .i64 p, .int .i64 nn] 64)) := hi0
  replace hB0 : Below w.heap.size w (w.alloc (.cells #[.int .i64 14, .int .i64 p, .int .i64 nn] 64)) := hB0
  replace h0 : XO bx bm L a cap m is s o y n d v (w.alloc (.cells #[.int .i64 14, .int .i64 p, .int .i64 nn] 64)) := h0
  go_enter Try.func35, Try.ntmps35
  go_upto_region 1 with fail
  generalize w.alloc (.cells #[.int .i64 14, .int .i64 p, .int .i64 nn] 64) = W0 at *
  have x0 := (hi0.1 0 _ rfl).1
  have hri := hi0.range
  have k := cjump_any bx d v (rest3 bm 0 false) ⟨14, p, nn⟩ W0 h0.x
  go_wp2_with (first | (refine wpList_load_row rfl _ rfl w.heap.size rfl (ins3 ⟨14, p, nn⟩) hri hundI rfl hszI ?_) | fail)
  refine k.mono ?_
  rintro e W1 ⟨⟨q, rfl⟩, hX1, hS1⟩
  have hO1 : OwnR 84 3 frc W1 L v (jmpC d ⟨14, p, nn⟩).st := by
    have hj : (jmpC d ⟨14, p, nn⟩).st = d.st := by unfold jmpC; split <;> rfl
    rw [hj]; exact hS1.own h0.own h0.vx
  have hB1 := hS1.below (hB0.mono hLw) h.lx (Nat.le_trans hLw hB0.size)
  go_wp2_with fail
  refine bodyPost_end (v := .tuple #[]) (by simp [results, Try.results35, go_sem]) rfl ?_
  rw [show opD d (m.map (·.g)) ⟨14, p, nn⟩ = okC (jmpC d ⟨14, p, nn⟩) from rfl]
  exact .ok v _ hX1 hO1 hB1
set_option maxRecDepth 8000 in
set_option maxHeartbeats 4000000 in
theorem cdo15 {bx bm L : Nat} {a : Option Addr} {cap : Nat} {m : List PG} {is : Bool} {s o y n : Int} {d : Cp} {v : Value} {w : World} (h : XO bx bm L a cap m is s o y n d v w) (p nn : Int) (hi : insE ⟨15, p, nn⟩ = 0) :
    Calls Try.prog 35 #[.pointer (some ⟨bx, 0, none⟩), .agg #[.int .i64 15, .int .i64 p, .int .i64 nn]] w (DoP bx bm L (.slice a m.length cap) n (opD d (m.map (·.g)) ⟨15, p, nn⟩) w) := by
  have hundI := Try.underlying64
  have hszI : (Try.prog.info? 64).map (·.size) = some 3 := by kernel_rfl
  have hi0 := blkl_alloc w (ins3 ⟨15, p, nn⟩).toArray 64
  have hB0 := alloc_below w (.cells (ins3 ⟨15, p, nn⟩).toArray 64)
  have h0 := h.keep hB0
  have hbx := h.x.lt
  have hLw : L ≤ w.heap.size := by have := h.lx; omega
  replace hi0 : BlkL w.heap.size (ins3 ⟨15, p, nn⟩) (w.alloc (.cells #[.int .i64 15, .int .i64 p, .int .i64 nn] 64)) := hi0
  replace hB0 : Below w.heap.size w (w.alloc (.cells #[.int .i64 15, .int .i64 p, .int .i64 nn] 64)) := hB0
  replace h0 : XO bx bm L a cap m is s o y n d v (w.alloc (.cells #[.int .i64 15, .int .i64 p, .int .i64 nn] 64)) := h0
  go_enter Try.func35, Try.ntmps35
  go_upto_region 1 with fail
  generalize w.alloc (.cells #[.int .i64 15, .int .i64 p, .int .i64 nn] 64) = W0 at *
  have x0 := (hi0.1 0 _ rfl).1
  have hri := hi0.range
  have k := cjump_any bx d v (rest3 bm 0 false) ⟨15, p, nn⟩ W0 h0.x
  go_wp2_with (first | (refine wpList_load_row rfl _ rfl w.heap.size rfl (ins3 ⟨15, p, nn⟩) hri hundI rfl hszI ?_) | fail)
  refine k.mono ?_
  rintro e W1 ⟨⟨q, rfl⟩, hX1, hS1⟩
  have hO1 : OwnR 84 3 frc W1 L v (jmpC d ⟨15, p, nn⟩).st := by
    have hj : (jmpC d ⟨15, p, nn⟩).st = d.st := by unfold jmpC; split <;> rfl
    rw [hj]; exact hS1.own h0.own h0.vx
  have hB1 := hS1.below (hB0.mono hLw) h.lx (Nat.le_trans hLw hB0.size)
  go_wp2_with fail
  refine bodyPost_end (v := .tuple #[]) (by simp [results, Try.results35, go_sem]) rfl ?_
  rw [show opD d (m.map (·.g)) ⟨15, p, nn⟩ = okC (jmpC d ⟨15, p, nn⟩) from rfl]
  exact .ok v _ hX1 hO1 hB1
set_option maxRecDepth 8000 in
set_option maxHeartbeats 4000000 in
theorem cdo16 {bx bm L : Nat} {a : Option Addr} {cap : Nat} {m : List PG} {is : Bool} {s o y n : Int} {d : Cp} {v : Value} {w : World} (h : XO bx bm L a cap m is s o y n d v w) (p nn : Int) (hi : insE ⟨16, p, nn⟩ = 0) :
    Calls Try.prog 35 #[.pointer (some ⟨bx, 0, none⟩), .agg #[.int .i64 16, .int .i64 p, .int .i64 nn]] w (DoP bx bm L (.slice a m.length cap) n (opD d (m.map (·.g)) ⟨16, p, nn⟩) w) := by
  have hundI := Try.underlying64
  have hszI : (Try.prog.info? 64).map (·.size) = some 3 := by kernel_rfl
  have hi0 := blkl_alloc w (ins3 ⟨16, p, nn⟩).toArray 64
  have hB0 := alloc_below w (.cells (ins3 ⟨16, p, nn⟩).toArray 64)
  have h0 := h.keep hB0
  have hbx := h.x.lt
  have hLw : L ≤ w.heap.size := by have := h.lx; omega
  replace hi0 : BlkL w.heap.size (ins3 ⟨16, p, nn⟩) (w.alloc (.cells #[.int .i64 16, .int .i64 p, .int .i64 nn] 64)) := hi0
  replace hB0 : Below w.heap.size w (w.alloc (.cells #[.int .i64 16, .int .i64 p, .int .i64 nn] 64)) := hB0
  replace h0 : XO bx bm L a cap m is s o y n d v (w.alloc (.cells #[.int .i64 16, .int .i64 p, .int .i64 nn] 64)) := h0
  go_enter Try.func35, Try.ntmps35
  go_upto_region 1 with fail
  generalize w.alloc (.cells #[.int .i64 16, .int .i64 p, .int .i64 nn] 64) = W0 at *
  have x0 := (hi0.1 0 _ rfl).1
  have hri := hi0.range
  have k := cjump_any bx d v (rest3 bm 0 false) ⟨16, p, nn⟩ W0 h0.x
  go_wp2_with (first | (refine wpList_load_row rfl _ rfl w.heap.size rfl (ins3 ⟨16, p, nn⟩) hri hundI rfl hszI ?_) | fail)
  refine k.mono ?_
  rintro e W1 ⟨⟨q, rfl⟩, hX1, hS1⟩
  have hO1 : OwnR 84 3 frc W1 L v (jmpC d ⟨16, p, nn⟩).st := by
    have hj : (jmpC d ⟨16, p, nn⟩).st = d.st := by unfold jmpC; split <;> rfl
    rw [hj]; exact hS1.own h0.own h0.vx
  have hB1 := hS1.below (hB0.mono hLw) h.lx (Nat.le_trans hLw hB0.size)
  go_wp2_with fail
  refine bodyPost_end (v := .tuple #[]) (by simp [results, Try.results35, go_sem]) rfl ?_
  rw [show opD d (m.map (·.g)) ⟨16, p, nn⟩ = okC (jmpC d ⟨16, p, nn⟩) from rfl]
  exact .ok v _ hX1 hO1 hB1
set_option maxRecDepth 8000 in
set_option maxHeartbeats 4000000 in
theorem cdo17 {bx bm L : Nat} {a : Option Addr} {cap : Nat} {m : List PG} {is : Bool} {s o y n : Int} {d : Cp} {v : Value} {w : World} (h : XO bx bm L a cap m is s o y n d v w) (p nn : Int) (hi : insE ⟨17, p, nn⟩ = 0) :
    Calls Try.prog 35 #[.pointer (some ⟨bx, 0, none⟩), .agg #[.int .i64 17, .int .i64 p, .int .i64 nn]] w (DoP bx bm L (.slice a m.length cap) n (opD d (m.map (·.g)) ⟨17, p, nn⟩) w) := by
  have hundI := Try.underlying64
  have hszI : (Try.prog.info? 64).map (·.size) = some 3 := by kernel_rfl
  have hi0 := blkl_alloc w (ins3 ⟨17, p, nn⟩).toArray 64
  have hB0 := alloc_below w (.cells (ins3 ⟨17, p, nn⟩).toArray 64)
  have h0 := h.keep hB0
  have hbx := h.x.lt
  have hLw : L ≤ w.heap.size := by have := h.lx; omega
  replace hi0 : BlkL w.heap.size (ins3 ⟨17, p, nn⟩) (w.alloc (.cells #[.int .i64 17, .int .i64 p, .int .i64 nn] 64)) := hi0
  replace hB0 : Below w.heap.size w (w.alloc (.cells #[.int .i64 17, .int .i64 p, .int .i64 nn] 64)) := hB0
  replace h0 : XO bx bm L a cap m is s o y n d v (w.alloc (.cells #[.int .i64 17, .int .i64 p, .int .i64 nn] 64)) := h0
  obtain ⟨pk, hpk, hp4⟩ : ∃ pk : Nat, p = (pk : Int) ∧ pk < 4 := by
    obtain ⟨-, p0, p1, -⟩ := insE_zero.1 hi
    replace p0 : 0 ≤ p := p0
    replace p1 : p ≤ 3 := p1
    exact ⟨p.toNat, by omega, by omega⟩
  replace hpk : Aside (p = (pk : Int)) := hpk
  go_enter Try.func35, Try.ntmps35
  go_upto_region 1 with fail
  generalize w.alloc (.cells #[.int .i64 17, .int .i64 p, .int .i64 nn] 64) = W0 at *
  have x0 := (hi0.1 0 _ rfl).1
  have hri := hi0.range
  have x1 := (hi0.1 1 _ rfl).1
  have k := csetp_any bx d v (rest3 bm 0 false) h.ok pk hp4 W0 h0.x
  rw [← hpk.out] at k
  go_wp2_with fail
  refine k.mono ?_
  rintro e W1 ⟨⟨q, rfl⟩, hX1, hS1⟩
  have hO1 := hS1.own h0.own h0.vx
  have hB1 := hS1.below (hB0.mono hLw) h.lx (Nat.le_trans hLw hB0.size)
  go_wp2_with fail
  refine bodyPost_end (v := .tuple #[]) (by simp [results, Try.results35, go_sem]) rfl ?_
  rw [show opD d (m.map (·.g)) ⟨17, p, nn⟩ = okC { d with ps := d.ps.set p.toNat ⟨(wPtr d.a).s, (wPtr d.a).f, gmax (wPtr d.a).r d.ring⟩ } from rfl, show p.toNat = pk by rw [hpk.out, Int.toNat_natCast]]
  exact .ok v _ hX1 hO1 hB1
set_option maxRecDepth 8000 in
set_option maxHeartbeats 4000000 in
theorem cdo18 {bx bm L : Nat} {a : Option Addr} {cap : Nat} {m : List PG} {is : Bool} {s o y n : Int} {d : Cp} {v : Value} {w : World} (h : XO bx bm L a cap m is s o y n d v w) (p nn : Int) (hi : insE ⟨18, p, nn⟩ = 0) :
    Calls Try.prog 35 #[.pointer (some ⟨bx, 0, none⟩), .agg #[.int .i64 18, .int .i64 p, .int .i64 nn]] w (DoP bx bm L (.slice a m.length cap) n (opD d (m.map (·.g)) ⟨18, p, nn⟩) w) := by
  have hundI := Try.underlying64
  have hszI : (Try.prog.info? 64).map (·.size) = some 3 := by kernel_rfl
  have hi0 := blkl_alloc w (ins3 ⟨18, p, nn⟩).toArray 64
  have hB0 := alloc_below w (.cells (ins3 ⟨18, p, nn⟩).toArray 64)
  have h0 := h.keep hB0
  have hbx := h.x.lt
  have hLw : L ≤ w.heap.size := by have := h.lx; omega
  replace hi0 : BlkL w.heap.size (ins3 ⟨18, p, nn⟩) (w.alloc (.cells #[.int .i64 18, .int .i64 p, .int .i64 nn] 64)) := hi0
  replace hB0 : Below w.heap.size w (w.alloc (.cells #[.int .i64 18, .int .i64 p, .int .i64 nn] 64)) := hB0
  replace h0 : XO bx bm L a cap m is s o y n d v (w.alloc (.cells #[.int .i64 18, .int .i64 p, .int .i64 nn] 64)) := h0
  obtain ⟨pk, hpk, hp4⟩ : ∃ pk : Nat, p = (pk : Int) ∧ pk < 4 := by
    obtain ⟨-, p0, p1, -⟩ := insE_zero.1 hi
    replace p0 : 0 ≤ p := p0
    replace p1 : p ≤ 3 := p1
    exact ⟨p.toNat, by omega, by omega⟩
  replace hpk : Aside (p = (pk : Int)) := hpk
  go_enter Try.func35, Try.ntmps35
  go_upto_region 1 with fail
  generalize w.alloc (.cells #[.int .i64 18, .int .i64 p, .int .i64 nn] 64) = W0 at *
  have x0 := (hi0.1 0 _ rfl).1
  have hri := hi0.range
  have k := cldp_any bm bx a cap m h.mg d v [.int .i64 0, .bool false] h.ok ⟨18, p, nn⟩ hi pk hpk.out hp4 W0 h0.at h0.x
  go_wp2_with (first | (refine wpList_load_row rfl _ rfl w.heap.size rfl (ins3 ⟨18, p, nn⟩) hri hundI rfl hszI ?_) | fail)
  refine k.mono ?_
  rintro e W1 (⟨hE, rfl, hb⟩ | ⟨hE, ⟨q, rfl⟩, hX1, hS1⟩)
  · go_wp2_with fail
    refine diedC ?_
    rw [show opD d (m.map (·.g)) ⟨18, p, nn⟩ = (if rdE d (m.map (·.g)) ⟨18, p, nn⟩ ≠ 0 then flt (rdE d (m.map (·.g)) ⟨18, p, nn⟩) else okC { d with ps := d.ps.set p.toNat (follow (wPtr (rdW d (m.map (·.g)) ⟨18, p, nn⟩)) (mSeg d (m.map (·.g)) ⟨18, p, nn⟩).rg (mRing d ⟨18, p, nn⟩)) }) from rfl, if_pos hE]
    exact .no hE rfl (Below.then hB0 hb)
  · have hO1 := hS1.own h0.own h0.vx
    have hB1 := hS1.below (hB0.mono hLw) h.lx (Nat.le_trans hLw hB0.size)
    go_wp2_with fail
    refine bodyPost_end (v := .tuple #[]) (by simp [results, Try.results35, go_sem]) rfl ?_
    rw [show opD d (m.map (·.g)) ⟨18, p, nn⟩ = (if rdE d (m.map (·.g)) ⟨18, p, nn⟩ ≠ 0 then flt (rdE d (m.map (·.g)) ⟨18, p, nn⟩) else okC { d with ps := d.ps.set p.toNat (follow (wPtr (rdW d (m.map (·.g)) ⟨18, p, nn⟩)) (mSeg d (m.map (·.g)) ⟨18, p, nn⟩).rg (mRing d ⟨18, p, nn⟩)) }) from rfl, if_neg (by simpa using hE), show p.toNat = pk by rw [hpk.out, Int.toNat_natCast]]
    exact .ok v _ hX1 hO1 hB1
end Go.Proofs.Ytinibccphecdfaa
