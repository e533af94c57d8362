/-
  CpuSteps, walked in parts: a word is written.
-/
import Derived.Test.YtinibccphecdfaaWCpuStsA
import Derived.Test.YtinibccphecdfaaWCpuStR
import Derived.Test.YtinibccphecdfaaWCpuPut
namespace Go.Proofs.Ytinibccphecdfaa
open Go.RowKit
set_option maxRecDepth 8000
set_option linter.unusedSimpArgs false
set_option linter.unusedVariables false

set_option maxRecDepth 8000 in
set_option maxHeartbeats 40000000 in
theorem steps_W {u0 u1 u2 u3 u4 u5 u6 u8 u9 u10 u11 u12 u13 u14 u15 u16 u18 u19 u20 u21 u22 u23 u24 u25 u26 u27 u28 u29 u30 u31 u32 u33 u34 u35 u36 u37 u38 u39 u40 u41 u42 u43 u44 u45 u46 u47 u48 u49 u50 u51 u52 u53 u54 u55 u56 u57 u58 u59 u60 u61 u62 u63 u64 u65 u66 u67 u68 u69 u70 u71 u72 u73 u74 u75 u76 u77 u78 u79 u80 u81 u82 u83 u84 u85 u86 u87 u88 u89 u90 u91 u92 u93 u94 u95 u96 u97 u98 u99 u100 u101 u102 u103 u104 u105 u106 u107 u108 u109 u110 u111 u112 u113 u114 u115 u116 u117 u118 u119 u120 u121 u122 u123 u124 u125 u126 u127 u128 u129 u130 u131 u132 u133 u134 u135 u136 u137 u138 u139 u140 u141 u142 u143 u144 u145 u146 : Value} {V : World} {bs bo ml cL : Nat} {aL : Option Addr} {L : List PG} {s9 o9 y9 : Int} {Q : Exit → Act → World → Prop}
    (hoq : BlkL bo [.bool true, .int .i64 s9, .int .i64 o9, .int .i64 y9] V) (hMRq : MVR bs (.slice aL ml cL) L V) (hMG : MG L) (hMok : ∀ g ∈ L.map (·.g), g.Ok) (hL5 : Aside (L.length ≤ 5)) (hml : Aside (L.length = ml)) (hbsl : bs < V.heap.size)
    (hG3is : (kn (L.map (·.g)) s9).is = true) (hino : inG (kn (L.map (·.g)) s9) o9) (hyf : -9223372036854775808 ≤ y9 ∧ y9 ≤ 9223372036854775807)
    (hQ : Aside (∀ (x7 x21 x123 x124 x125 x126 x127 x128 x129 x130 x131 x132 x133 x134 x135 x136 x137 x138 x139 x140 x141 x142 x143 x144 x145 : Value) (W' : World) (L' : List PG), MVR bs x7 L' W' → (∀ g ∈ L'.map (·.g), g.Ok) → Aside (L'.length ≤ 5) → Below V.heap.size V W' → Q .normal ⟨#[u0, u1, u2, u3, u4, u5, u6, x7, u8, u9, u10, u11, u12, u13, u14, u15, u16, .pointer (some ⟨bo, 0, none⟩), u18, u19, u20, x21, u22, u23, u24, u25, u26, u27, u28, u29, u30, u31, u32, u33, u34, u35, u36, u37, u38, u39, u40, u41, u42, u43, u44, u45, u46, u47, u48, u49, u50, u51, u52, u53, u54, u55, u56, u57, u58, u59, u60, u61, u62, u63, u64, u65, u66, u67, u68, u69, u70, u71, u72, u73, u74, u75, u76, u77, u78, u79, u80, u81, u82, u83, u84, u85, u86, u87, u88, u89, u90, u91, u92, u93, u94, u95, u96, u97, u98, u99, u100, u101, u102, u103, u104, u105, u106, u107, u108, u109, u110, u111, u112, u113, u114, u115, u116, u117, u118, u119, u120, u121, u122, x123, x124, x125, x126, x127, x128, x129, x130, x131, x132, x133, x134, x135, x136, x137, x138, x139, x140, x141, x142, x143, x144, x145, u146], []⟩ W')) :
    Code.wp Try.prog (codeAt 21 Try.f3) Q ⟨#[u0, u1, u2, u3, u4, u5, u6, .slice aL ml cL, u8, u9, u10, u11, u12, u13, u14, u15, u16, .pointer (some ⟨bo, 0, none⟩), u18, u19, u20, u21, u22, u23, u24, u25, u26, u27, u28, u29, u30, u31, u32, u33, u34, u35, u36, u37, u38, u39, u40, u41, u42, u43, u44, u45, u46, u47, u48, u49, u50, u51, u52, u53, u54, u55, u56, u57, u58, u59, u60, u61, u62, u63, u64, u65, u66, u67, u68, u69, u70, u71, u72, u73, u74, u75, u76, u77, u78, u79, u80, u81, u82, u83, u84, u85, u86, u87, u88, u89, u90, u91, u92, u93, u94, u95, u96, u97, u98, u99, u100, u101, u102, u103, u104, u105, u106, u107, u108, u109, u110, u111, u112, u113, u114, u115, u116, u117, u118, u119, u120, u121, u122, u123, u124, u125, u126, u127, u128, u129, u130, u131, u132, u133, u134, u135, u136, u137, u138, u139, u140, u141, u142, u143, u144, u145, u146], []⟩ V := by
  have hszG : (Try.prog.info? 57).map (·.size) = some 7 := by kernel_rfl
  obtain ⟨ks, x3, hks, hksl, hx3, hx3g⟩ := kn_is hG3is
  subst hks
  rw [hml.out] at hksl
  rw [← hx3g] at hino
  obtain ⟨jo, hjo⟩ : ∃ jo : Nat, o9 = (jo : Int) := ⟨o9.toNat, by have := hino.1; omega⟩
  subst hjo
  obtain ⟨gn, hgn⟩ : ∃ gn, x3.g.ws.length = gn := ⟨_, rfl⟩
  have hjn : jo < gn := by have := hino.2; omega
  have hML : ml ≤ 5 := by rw [← hml.out]; exact hL5.out
  have hrL := hMRq.mv.row
  obtain ⟨z3, hz3, -⟩ := hrL.row ks x3 hx3
  subst hz3
  have hcl3 := hrL.row.at pg_len hx3
  have hc1 : V.cell? ⟨(z3.add (ks * 7)).block, (z3.add (ks * 7)).off + 1, none⟩ = some x3.v := hcl3 1 _ rfl
  have hmem := List.mem_of_getElem? hx3
  have hx3At : RowAt 1 wcl V x3.wa x3.g.ws := hrL.at_ x3 hmem
  obtain ⟨xw, hxw⟩ : ∃ xw, x3.g.ws[jo]? = some xw := ⟨_, List.getElem?_eq_getElem (by omega)⟩
  have hwa : x3.wa = none → x3.wc = 0 ∧ gn = 0 := fun q => ⟨hMG.cap x3 hmem q, by
    obtain ⟨y, hy, -⟩ := hx3At jo xw hxw
    rw [q] at hy
    cases hy⟩
  have hv3 : x3.v = .slice x3.wa gn x3.wc := by unfold PG.v; rw [hgn]
  rw [hv3] at hc1
  have hgn9 : gn < 900000 := by have := (hMG.ok x3 hmem).len; omega
  obtain ⟨vc, W18, hap, hoc, hb18⟩ := wasW_run wd_okC hx3At hgn hwa hgn9
  obtain ⟨gc, cc, hvc, hgc, hgcl⟩ := hoc.form (by omega)
  rw [hgn] at hvc
  subst hvc
  have i8 : (ks : Int) < (ml : Int) := by omega
  have i9 : ¬ (ks : Int) < 0 := by omega
  have i10 : ¬ (ml : Int) ≤ (ks : Int) := by omega
  replace hgn3 : Aside (x3.g.ws.length = gn) := hgn
  have hal := alloc_below V (.cells #[] 2)
  have x1a := (hal.cell (p := ⟨bo, 1, none⟩) hoq.2).trans (hoq.1 1 (.int .i64 (ks : Int)) rfl).1
  have hc1a := (hal.cell (p := ⟨(z3.add (ks * 7)).block, (z3.add (ks * 7)).off + 1, none⟩) (World.block_lt_of_cell? _ _ hc1)).trans hc1
  obtain ⟨hoc19, hso19, hfz19, zz, hcz19⟩ := OwnR.stored (f := wcl) (sz := 1) (fun _ => rfl) hoc (show gn = x3.g.ws.length from hgn.symm) (j := jo) (o := 0) (y := y9) (u := .int .i64 y9) hxw (by decide) rfl
  simp only [Nat.mul_one, Nat.add_zero] at hoc19 hso19 hfz19 hcz19
  have hb19 : Below V.heap.size V (W18.setCell ⟨gc, jo, none⟩ (.int .i64 y9)) := hso19.below hb18 hgc hb18.size
  have x2a := (hb18.cell (p := ⟨bo, 2, none⟩) hoq.2).trans (hoq.1 2 (.int .i64 (jo : Int)) rfl).1
  have x3a := (hb18.cell (p := ⟨bo, 3, none⟩) hoq.2).trans (hoq.1 3 (.int .i64 y9) rfl).1
  have i11 : (jo : Int) < (gn : Int) := by omega
  have i12 : ¬ (jo : Int) < 0 := by omega
  have i13 : ¬ (gn : Int) ≤ (jo : Int) := by omega
  clear hwa hv3 hgn hcl3 hx3At hal hc1 hx3g hino hG3is hrL hoc hso19 hgcl
  conv => arg 2; whnf
  have hap2 := @appAt _ _ _ _ _ _ (.tmp 123) (.tmp 129) hap
  clear hap
  go_upto_region 22 with (first | (refine wpList_build0W wd_okC rfl rfl ?_) | (refine hap2 rfl rfl rfl rfl rfl ?_) | fail)
  clear hap2 x1a hc1a
  go_upto_region 23 with fail
  clear x2a x3a hcz19 hfz19 i11 i12 i13 hb18
  generalize W18.setCell ⟨gc, jo, none⟩ (.int .i64 y9) = W19 at *
  have ho19 := stab_blk _ _ _ _ hoq hb19
  have hMR19 := hMRq.below hb19
  have hrow19 := hMR19.mv.row.row
  have hLp : 0 < L.length := by rw [hml.out]; omega
  obtain ⟨vm, W20, hap, hom, hb20⟩ := wasW_run (c := cL) pg_okC hrow19 hml.out (fun q => by cases q) (by omega)
  obtain ⟨gm, cm, hvm, hgm, hgml⟩ := hom.form hLp
  rw [hml.out] at hvm
  subst hvm
  have hap2 := @appAt _ _ _ _ _ _ (.tmp 137) (.tmp 138) hap
  clear hap
  go_upto_region 24 with (first | (refine wpList_build0W pg_okC rfl rfl ?_) | (refine hap2 rfl rfl rfl rfl rfl ?_) | fail)
  clear hap2
  obtain ⟨hom21, hso21, hfz21, zz2, hcz21⟩ := OwnR.stored (f := PG.cs) (sz := 7) pg_len hom hml.out.symm (j := ks) (o := 1) (y := putX x3 jo y9 gc cc) (u := .slice (some ⟨gc, 0, none⟩) gn cc) hx3 (by decide) (by rw [← hgn3.out]; exact putX_cs x3 jo y9 gc cc)
  have hb21 := hso21.below hb20 hgm hb20.size
  have hbV := hb19.trans (hb21.mono hb19.size)
  have hle19 := hb19.size
  have x1 := (hb20.cell (p := ⟨bo, 1, none⟩) ho19.2).trans (ho19.1 1 (.int .i64 (ks : Int)) rfl).1
  have hMR21 := hMR19.below hb21
  have hoc21 := hoc19.below hb21
  have hmv := mvr_put hMR21 hMok hx3 hyf (by rw [hgn3.out]; exact hoc21) (by rw [hml.out]; exact hom21) hbsl (Nat.lt_of_lt_of_le hbsl hle19)
  rw [hml.out] at hmv
  have hMk' := putX_ok hMok hx3 hyf jo gc cc
  have hL' : Aside ((L.set ks (putX x3 jo y9 gc cc)).length ≤ 5) := by
    show (L.set ks _).length ≤ 5
    rw [List.length_set]
    exact hL5.out
  clear hso21 hom hb20 hgml hMR19 hMR21 hoc21 hoc19 hom21 hb21 hb19 ho19
  go_wp2_with fail
  exact hQ.out _ _ _ _ _ _ _ _ _ _ _ _ _ _ _ _ _ _ _ _ _ _ _ _ _ _ _ hmv hMk' hL' hbV
end Go.Proofs.Ytinibccphecdfaa
