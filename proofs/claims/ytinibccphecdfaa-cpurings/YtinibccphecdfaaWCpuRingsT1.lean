/-
  CpuRings, walked in parts: a word was written.
-/
import Derived.Test.YtinibccphecdfaaWCpuRingsT2
import Derived.Deep.CutBlock
namespace Go.Proofs.Ytinibccphecdfaa
open Go.RowKit
set_option maxRecDepth 8000
set_option linter.unusedSimpArgs false
set_option linter.unusedVariables false

set_option maxRecDepth 8000 in
set_option maxHeartbeats 8000000 in
theorem rings_T1 {u0 u1 u2 u3 u4 u5 u6 u9 u11 u12 u14 u15 u16 u18 u19 u20 u21 u22 u23 u24 u25 u26 u27 u28 u29 u30 u31 u32 u33 u34 u35 u36 u37 u38 u39 u40 u41 u42 u43 u44 u45 u46 u47 u48 u49 u50 u51 u52 u53 u54 u55 u56 u57 u58 u59 u60 u61 u62 u63 u64 u65 u66 u67 u68 u69 u70 u71 u72 u73 u74 u75 u76 u77 u78 u79 u80 u81 u82 u83 u84 u85 u86 u87 u88 u89 u90 u91 u92 u93 u94 u95 u96 u97 u98 u99 u100 u101 u102 u103 u104 u105 u106 u107 u108 u109 u110 u111 u112 u113 u114 u115 u116 u117 u118 u119 u120 u121 u122 u123 u124 u125 u126 u127 u128 u129 u130 u131 u132 u133 u134 u135 u136 u137 u138 u139 u140 u141 u142 u143 u144 u145 u146 u147 u148 u149 u150 u151 u152 u153 u154 u155 u156 u157 u158 u159 u160 u161 u162 u163 u164 u165 u166 u167 u168 u169 u170 u171 u172 u173 u174 u175 u176 u177 u178 u179 u180 u181 u182 u183 u184 u185 u186 u187 u188 u189 u190 u191 u192 u193 u194 u195 u196 u197 u198 u199 u200 u201 u202 u203 u204 u205 u206 u207 u208 u209 u210 u211 u212 u213 u214 u215 u216 u217 u218 u219 u220 u221 u222 u223 u224 u225 u226 u227 u228 u229 u230 u231 u232 u233 u234 u235 u236 u237 u238 u239 u240 u241 u242 u243 u244 u245 u246 u247 u248 u249 u250 u251 u252 u253 u254 u255 u256 u257 u258 u259 u260 u261 u262 u263 u264 u265 u266 u267 u268 u269 u270 u271 u272 u273 u274 u275 u276 u277 u278 u279 u280 u281 u282 u283 u284 u285 u286 u287 u288 u289 u290 u291 u292 u293 u294 u295 u296 u297 u298 u299 u300 u301 u302 u303 u304 u305 u306 u307 u308 u309 u310 u311 u312 u313 u314 u315 u316 u317 u318 u319 u320 u321 : Value} {w V : World} {bs bm bT bi B8 ml cL : Nat} {aL : Option Addr} {L : List PG} {d T : Cp} {v vT : Value} {i : Ins} {s9 o9 y9 : Int} {Q : Exit → Act → World → Prop}
    (hsq : StAt bs d v V) (hTq : StAt bT T vT V) (hmq : BlkL bm (memCs (.slice aL ml cL) true s9 o9 y9 1) V) (hoTq : OwnR 84 3 frc V B8 vT T.st) (hMRq : MVR bs (.slice aL ml cL) L V) (hBq : Below w.heap.size w V)
    (hgs : w.heap.size ≤ bs) (hgT : bs < bT) (hgB : bs < B8) (hT4 : T.ps.length = 4) (hMok : ∀ g ∈ L.map (·.g), g.Ok) (hL5 : Aside (L.length ≤ 5)) (hml : Aside (L.length = ml)) (hok : d.Ok) (hMG : MG L) (hiq : BlkL bi (ins3 i) V) (hie : insE i = 0)
    (hmx0 : gmax d.ring (pAt d i.p).r ≤ (kn (L.map (·.g)) s9).rg.a) (hG3is : (kn (L.map (·.g)) s9).is = true) (hmd : hasM (kn (L.map (·.g)) s9).md 2 = true) (hino : inG (kn (L.map (·.g)) s9) o9) (hy9 : y9 = d.a) (hQp : Aside (∀ ch (a : Act) d v w, Q (.panic ch) (a.put d v) w → Q (.panic ch) a w))
    (hQ : Aside (∀ (x7 x22 x23 x24 x233 x234 x235 x236 x237 x238 x239 x240 x241 x242 x243 x244 x245 x246 x247 x248 x249 x250 x251 x252 x253 x254 x255 x256 x257 x258 x259 x260 x261 x262 x263 x264 x265 x266 x267 x268 x269 x270 x271 x272 x273 x274 x275 x276 x277 x278 x279 x280 x281 x282 x283 x284 x285 x286 x287 x288 x289 x290 x291 x292 x293 x294 x295 x296 x297 x298 x299 x300 x301 x302 x303 x304 x305 x306 x307 x308 x309 x310 x311 x312 x313 x314 x315 x316 x317 x318 x319 x320 x321 : Value) (W' : World) (L' : List PG), MVR bs x7 L' W' → (∀ g ∈ L'.map (·.g), g.Ok) → Aside (L'.length ≤ 5) → StAt bs T vT W' → SV vT T.st W' → Below w.heap.size w W' → Q .normal ⟨#[u0, u1, u2, u3, u4, u5, u6, x7, .pointer (some ⟨bs, 0, none⟩), u9, .pointer (some ⟨bm, 0, none⟩), u11, u12, .pointer (some ⟨bT, 0, none⟩), u14, u15, u16, .pointer (some ⟨bi, 0, none⟩), u18, u19, u20, u21, x22, x23, x24, u25, u26, u27, u28, u29, u30, u31, u32, u33, u34, u35, u36, u37, u38, u39, u40, u41, u42, u43, u44, u45, u46, u47, u48, u49, u50, u51, u52, u53, u54, u55, u56, u57, u58, u59, u60, u61, u62, u63, u64, u65, u66, u67, u68, u69, u70, u71, u72, u73, u74, u75, u76, u77, u78, u79, u80, u81, u82, u83, u84, u85, u86, u87, u88, u89, u90, u91, u92, u93, u94, u95, u96, u97, u98, u99, u100, u101, u102, u103, u104, u105, u106, u107, u108, u109, u110, u111, u112, u113, u114, u115, u116, u117, u118, u119, u120, u121, u122, u123, u124, u125, u126, u127, u128, u129, u130, u131, u132, u133, u134, u135, u136, u137, u138, u139, u140, u141, u142, u143, u144, u145, u146, u147, u148, u149, u150, u151, u152, u153, u154, u155, u156, u157, u158, u159, u160, u161, u162, u163, u164, u165, u166, u167, u168, u169, u170, u171, u172, u173, u174, u175, u176, u177, u178, u179, u180, u181, u182, u183, u184, u185, u186, u187, u188, u189, u190, u191, u192, u193, u194, u195, u196, u197, u198, u199, u200, u201, u202, u203, u204, u205, u206, u207, u208, u209, u210, u211, u212, u213, u214, u215, u216, u217, u218, u219, u220, u221, u222, u223, u224, u225, u226, u227, u228, u229, u230, u231, u232, x233, x234, x235, x236, x237, x238, x239, x240, x241, x242, x243, x244, x245, x246, x247, x248, x249, x250, x251, x252, x253, x254, x255, x256, x257, x258, x259, x260, x261, x262, x263, x264, x265, x266, x267, x268, x269, x270, x271, x272, x273, x274, x275, x276, x277, x278, x279, x280, x281, x282, x283, x284, x285, x286, x287, x288, x289, x290, x291, x292, x293, x294, x295, x296, x297, x298, x299, x300, x301, x302, x303, x304, x305, x306, x307, x308, x309, x310, x311, x312, x313, x314, x315, x316, x317, x318, x319, x320, x321], []⟩ W')) :
    Code.wp Try.prog ringsT Q ⟨#[u0, u1, u2, u3, u4, u5, u6, .slice aL ml cL, .pointer (some ⟨bs, 0, none⟩), u9, .pointer (some ⟨bm, 0, none⟩), u11, u12, .pointer (some ⟨bT, 0, none⟩), u14, u15, u16, .pointer (some ⟨bi, 0, none⟩), u18, u19, u20, u21, u22, u23, u24, u25, u26, u27, u28, u29, u30, u31, u32, u33, u34, u35, u36, u37, u38, u39, u40, u41, u42, u43, u44, u45, u46, u47, u48, u49, u50, u51, u52, u53, u54, u55, u56, u57, u58, u59, u60, u61, u62, u63, u64, u65, u66, u67, u68, u69, u70, u71, u72, u73, u74, u75, u76, u77, u78, u79, u80, u81, u82, u83, u84, u85, u86, u87, u88, u89, u90, u91, u92, u93, u94, u95, u96, u97, u98, u99, u100, u101, u102, u103, u104, u105, u106, u107, u108, u109, u110, u111, u112, u113, u114, u115, u116, u117, u118, u119, u120, u121, u122, u123, u124, u125, u126, u127, u128, u129, u130, u131, u132, u133, u134, u135, u136, u137, u138, u139, u140, u141, u142, u143, u144, u145, u146, u147, u148, u149, u150, u151, u152, u153, u154, u155, u156, u157, u158, u159, u160, u161, u162, u163, u164, u165, u166, u167, u168, u169, u170, u171, u172, u173, u174, u175, u176, u177, u178, u179, u180, u181, u182, u183, u184, u185, u186, u187, u188, u189, u190, u191, u192, u193, u194, u195, u196, u197, u198, u199, u200, u201, u202, u203, u204, u205, u206, u207, u208, u209, u210, u211, u212, u213, u214, u215, u216, u217, u218, u219, u220, u221, u222, u223, u224, u225, u226, u227, u228, u229, u230, u231, u232, u233, u234, u235, u236, u237, u238, u239, u240, u241, u242, u243, u244, u245, u246, u247, u248, u249, u250, u251, u252, u253, u254, u255, u256, u257, u258, u259, u260, u261, u262, u263, u264, u265, u266, u267, u268, u269, u270, u271, u272, u273, u274, u275, u276, u277, u278, u279, u280, u281, u282, u283, u284, u285, u286, u287, u288, u289, u290, u291, u292, u293, u294, u295, u296, u297, u298, u299, u300, u301, u302, u303, u304, u305, u306, u307, u308, u309, u310, u311, u312, u313, u314, u315, u316, u317, u318, u319, u320, u321], []⟩ V := by
  have hundS := Try.underlying33
  have hszS : (Try.prog.info? 33).map (·.size) = some 18 := by kernel_rfl
  have hszG : (Try.prog.info? 60).map (·.size) = some 6 := by kernel_rfl
  conv => arg 2; whnf
  have x5 := (hmq.1 5 _ rfl).1
  have hmx := hmx0
  clear hmx0
  obtain ⟨ks, x3, hks, hksl, hx3, hx3g⟩ := kn_is hG3is
  subst hks
  rw [hml.out] at hksl
  have hyf : -9223372036854775808 ≤ y9 ∧ y9 ≤ 9223372036854775807 := by rw [hy9]; exact hok.a
  have kg3 := msegV bm aL cL L (ks : Int) hMG V ⟨by rw [hml.out]; exact (hmq.1 0 _ rfl).1, hMRq.mv.row⟩
  obtain ⟨G3, hG3⟩ : ∃ G3, kn (L.map (·.g)) (ks : Int) = G3 := ⟨_, rfl⟩
  rw [hG3] at hG3is hmx hmd hino hx3g
  simp only [hG3] at kg3
  have ht3 : tellG G3 = G3 := by unfold tellG; rw [if_pos hG3is]
  rw [ht3] at kg3
  obtain ⟨jo, hjo⟩ : ∃ jo : Nat, o9 = (jo : Int) := ⟨o9.toNat, by have := hino.1; omega⟩
  subst hjo
  obtain ⟨gn, hgn⟩ : ∃ gn, G3.ws.length = gn := ⟨_, rfl⟩
  have hjn : jo < gn := by have := hino.2; omega
  obtain ⟨pn, hpn⟩ : ∃ pn : Nat, i.p = (pn : Int) := ⟨i.p.toNat, by have := (insE_zero.1 hie).2.1; omega⟩
  have hpn4 : pn < 4 := by have := (insE_zero.1 hie).2.2.1; omega
  rw [hpn] at hmx
  obtain ⟨pr, hpr⟩ : ∃ pr, (pAt d (pn : Int)).r = pr := ⟨_, rfl⟩
  rw [hpr] at hmx
  have x2 := (hmq.1 2 (.int .i64 (ks : Int)) rfl).1
  clear hino hy9 hie hG3 hG3is ht3
  go_upto_region 27 with fail
  go_wp2_with fail
  refine kg3.mono ?_
  rintro e W16 ⟨vw, rfl, how, hb16⟩
  obtain ⟨aw, cw, hvw, -⟩ := how.slice wd_okC.len
  rw [hgn] at hvw
  subst hvw
  obtain ⟨W17, hW17, hth17, hbw17, hk17⟩ := put_new W16 #[.slice none 0 0, .int .i64 0, .int .i64 0, .int .i64 0, .int .i64 0, .int .i64 0] 60 (sg6 G3 (.slice aw gn cw)) rfl (by show 0 < 6; decide)
  have hb17 := Below.then hb16 hk17
  have hone17 := sg6_one3 G3 (v := .slice aw gn cw) rfl
  have hszg : (Try.prog.info? 60).map (·.size) = some (sg6 G3 (.slice aw gn cw)).length := hszG
  obtain ⟨Y, hY⟩ : ∃ Y, sg6 G3 (.slice aw gn cw) = Y := ⟨_, rfl⟩
  rw [hY] at hW17 hth17 hone17 hszg ⊢
  clear kg3 hb16 hk17 how hY
  go_upto_region 28 with (first | (refine wpList_store_row rfl _ _ rfl W16.heap.size rfl Y rfl hth17 hszg hone17 hW17 ?_) | fail)
  clear hW17 hth17 hszg hone17
  generalize W16.heap.size = bw at *
  replace hsq := hsq.keep hb17
  replace hTq := hTq.keep hb17
  replace hmq := stab_blk _ _ _ _ hmq hb17
  replace hiq := stab_blk _ _ _ _ hiq hb17
  replace hoTq := hoTq.below hb17
  replace hMRq := hMRq.below hb17
  replace hBq := Below.then hBq hb17
  clear hb17 x2 x5
  have zdr := hsq.ring
  have zip : W17.cell? ⟨bi, 1, none⟩ = some (.int .i64 (pn : Int)) := by rw [← hpn]; exact (hiq.1 1 _ rfl).1
  have zpr : W17.cell? ⟨bs, 4 + pn * 3 + 2, none⟩ = some (.int .i64 pr) := by rw [← hpr]; exact hsq.pr hpn4
  have zwa := (hbw17.1 2 (.int .i64 G3.rg.a) rfl).1
  have zwm := (hbw17.1 1 (.int .i64 G3.md) rfl).1
  have zww := (hbw17.1 0 (.slice aw gn cw) rfl).1
  have zmo := (hmq.1 3 (.int .i64 (jo : Int)) rfl).1
  have i6 : (pn : Int) < 4 := by omega
  have i7 : ¬ (pn : Int) < 0 := by omega
  have g1 : decide (G3.rg.a < gmax d.ring pr) = false := by simp; omega
  have g2 : (bits .and .i64 G3.md 2 == 0) = false := by unfold hasM at hmd; simpa using hmd
  have g3 : decide ((jo : Int) < 0) = false := by simp
  have g4 : decide ((gn : Int) ≤ (jo : Int)) = false := by simp; omega
  have hS0 := (Below.refl W17.heap.size W17).drew
  have hmxe : (if d.ring < pr then pr else d.ring) = gmax d.ring pr := rfl
  generalize gmax d.ring pr = mx at *
  refine wp_region_held_drew (S := (fun W => Below W17.heap.size W17 W)) (by kernel_rfl) (by exact hS0) ?_
  intro hHeld
  generalize W17.drew = w0 at *
  refine wpAnyH_take (i := 0) (v := ?_) (by simp only [gA, gB, gC]; rfl) (by kernel_rfl) (by kernel_rfl) (by kernel_rfl) (by exact fun c a w h => hQp.out c a _ _ w h) (Or.inl ⟨by rfl, ?_⟩) (by assumption) ?_; rotate_left; (focus (intro w hSw; (try dsimp only at hSw); go_simp; try with_reducible rfl)); (try simp only [Act.put, sA, sB, sC, hmxe, gt_iff_lt, ge_iff_le, g1, g2, g3, g4])
  refine wpAnyH_take (i := 1) (v := _) (by simp only [gA, gB, gC]; rfl) (by kernel_rfl) (by kernel_rfl) (by kernel_rfl) (by exact fun c a w h => hQp.out c a _ _ w h) (yields_cellI (by rfl) _ rfl ⟨bs, 2, none⟩ rfl (.int .i64 d.ring) (fun _ q => (q.cell (p := ⟨bs, 2, none⟩) (World.block_lt_of_cell? _ _ zdr)).trans zdr) intI_load) (by assumption) ?_; (try simp only [Act.put, sA, sB, sC, hmxe, gt_iff_lt, ge_iff_le, g1, g2, g3, g4])
  refine wpAnyH_take (i := 2) (v := ?_) (by simp only [gA, gB, gC]; rfl) (by kernel_rfl) (by kernel_rfl) (by kernel_rfl) (by exact fun c a w h => hQp.out c a _ _ w h) (Or.inl ⟨by rfl, ?_⟩) (by assumption) ?_; rotate_left; (focus (intro w hSw; (try dsimp only at hSw); go_simp; try with_reducible rfl)); (try simp only [Act.put, sA, sB, sC, hmxe, gt_iff_lt, ge_iff_le, g1, g2, g3, g4])
  refine wpAnyH_take (i := 3) (v := _) (by simp only [gA, gB, gC]; rfl) (by kernel_rfl) (by kernel_rfl) (by kernel_rfl) (by exact fun c a w h => hQp.out c a _ _ w h) (yields_cellI (by rfl) _ rfl ⟨bi, 1, none⟩ rfl (.int .i64 (pn : Int)) (fun _ q => (q.cell (p := ⟨bi, 1, none⟩) (World.block_lt_of_cell? _ _ zip)).trans zip) intI_load) (by assumption) ?_; (try simp only [Act.put, sA, sB, sC, hmxe, gt_iff_lt, ge_iff_le, g1, g2, g3, g4])
  refine wpAnyH_take (i := 4) (v := ?_) (by simp only [gA, gB, gC]; rfl) (by kernel_rfl) (by kernel_rfl) (by kernel_rfl) (by exact fun c a w h => hQp.out c a _ _ w h) (Or.inl ⟨by rfl, ?_⟩) (by assumption) ?_; rotate_left; (focus (intro w hSw; (try dsimp only at hSw); go_simp; try with_reducible rfl)); (try simp only [Act.put, sA, sB, sC, hmxe, gt_iff_lt, ge_iff_le, g1, g2, g3, g4])
  refine wpAnyH_take (i := 5) (v := ?_) (by simp only [gA, gB, gC]; rfl) (by kernel_rfl) (by kernel_rfl) (by kernel_rfl) (by exact fun c a w h => hQp.out c a _ _ w h) (Or.inl ⟨by rfl, ?_⟩) (by assumption) ?_; rotate_left; (focus (intro w hSw; (try dsimp only at hSw); go_simp; try with_reducible rfl)); (try simp only [Act.put, sA, sB, sC, hmxe, gt_iff_lt, ge_iff_le, g1, g2, g3, g4])
  refine wpAnyH_take (i := 6) (v := ?_) (by simp only [gA, gB, gC]; rfl) (by kernel_rfl) (by kernel_rfl) (by kernel_rfl) (by exact fun c a w h => hQp.out c a _ _ w h) (Or.inl ⟨by rfl, ?_⟩) (by assumption) ?_; rotate_left; (focus (intro w hSw; (try dsimp only at hSw); go_simp; try with_reducible rfl)); (try simp only [Act.put, sA, sB, sC, hmxe, gt_iff_lt, ge_iff_le, g1, g2, g3, g4])
  refine wpAnyH_take (i := 7) (v := _) (by simp only [gA, gB, gC]; rfl) (by kernel_rfl) (by kernel_rfl) (by kernel_rfl) (by exact fun c a w h => hQp.out c a _ _ w h) (yields_cellI (by rfl) _ rfl ⟨bs, 4 + pn * 3 + 2, none⟩ rfl (.int .i64 pr) (fun _ q => (q.cell (p := ⟨bs, 4 + pn * 3 + 2, none⟩) (World.block_lt_of_cell? _ _ zpr)).trans zpr) intI_load) (by assumption) ?_; (try simp only [Act.put, sA, sB, sC, hmxe, gt_iff_lt, ge_iff_le, g1, g2, g3, g4])
  refine wpAnyH_take (i := 8) (v := ?_) (by simp only [gA, gB, gC]; rfl) (by kernel_rfl) (by kernel_rfl) (by kernel_rfl) (by exact fun c a w h => hQp.out c a _ _ w h) (Or.inl ⟨by rfl, ?_⟩) (by assumption) ?_; rotate_left; (focus (intro w hSw; (try dsimp only at hSw); go_simp; try with_reducible rfl)); (try simp only [Act.put, sA, sB, sC, hmxe, gt_iff_lt, ge_iff_le, g1, g2, g3, g4])
  refine wpAnyH_take (i := 9) (v := ?_) (by simp only [gA, gB, gC]; rfl) (by kernel_rfl) (by kernel_rfl) (by kernel_rfl) (by exact fun c a w h => hQp.out c a _ _ w h) (Or.inl ⟨by rfl, ?_⟩) (by assumption) ?_; rotate_left; (focus (intro w hSw; (try dsimp only at hSw); go_simp; try with_reducible rfl)); (try simp only [Act.put, sA, sB, sC, hmxe, gt_iff_lt, ge_iff_le, g1, g2, g3, g4])
  refine wpAnyH_take (i := 10) (v := ?_) (by simp only [gA, gB, gC]; rfl) (by kernel_rfl) (by kernel_rfl) (by kernel_rfl) (by exact fun c a w h => hQp.out c a _ _ w h) (Or.inl ⟨by rfl, ?_⟩) (by assumption) ?_; rotate_left; (focus (intro w hSw; (try dsimp only at hSw); go_simp; try with_reducible rfl)); (try simp only [Act.put, sA, sB, sC, hmxe, gt_iff_lt, ge_iff_le, g1, g2, g3, g4])
  refine wpAnyH_take (i := 11) (v := _) (by simp only [gA, gB, gC]; rfl) (by kernel_rfl) (by kernel_rfl) (by kernel_rfl) (by exact fun c a w h => hQp.out c a _ _ w h) (yields_cellI (by rfl) _ rfl ⟨bw, 2, none⟩ rfl (.int .i64 G3.rg.a) (fun _ q => (q.cell (p := ⟨bw, 2, none⟩) (World.block_lt_of_cell? _ _ zwa)).trans zwa) intI_load) (by assumption) ?_; (try simp only [Act.put, sA, sB, sC, hmxe, gt_iff_lt, ge_iff_le, g1, g2, g3, g4])
  refine wpAnyH_take (i := 12) (v := ?_) (by simp only [gA, gB, gC]; rfl) (by kernel_rfl) (by kernel_rfl) (by kernel_rfl) (by exact fun c a w h => hQp.out c a _ _ w h) (Or.inl ⟨by rfl, ?_⟩) (by assumption) ?_; rotate_left; (focus (intro w hSw; (try dsimp only at hSw); go_simp; try with_reducible rfl)); (try simp only [Act.put, sA, sB, sC, hmxe, gt_iff_lt, ge_iff_le, g1, g2, g3, g4])
  refine wpAnyH_take (i := 13) (v := ?_) (by simp only [gA, gB, gC]; rfl) (by kernel_rfl) (by kernel_rfl) (by kernel_rfl) (by exact fun c a w h => hQp.out c a _ _ w h) (Or.inl ⟨by rfl, ?_⟩) (by assumption) ?_; rotate_left; (focus (intro w hSw; (try dsimp only at hSw); go_simp; try with_reducible rfl)); (try simp only [Act.put, sA, sB, sC, hmxe, gt_iff_lt, ge_iff_le, g1, g2, g3, g4])
  refine wpAnyH_take (i := 14) (v := ?_) (by simp only [gA, gB, gC]; rfl) (by kernel_rfl) (by kernel_rfl) (by kernel_rfl) (by exact fun c a w h => hQp.out c a _ _ w h) (Or.inl ⟨by rfl, ?_⟩) (by assumption) ?_; rotate_left; (focus (intro w hSw; (try dsimp only at hSw); go_simp; try with_reducible rfl)); (try simp only [Act.put, sA, sB, sC, hmxe, gt_iff_lt, ge_iff_le, g1, g2, g3, g4])
  refine wpAnyH_take (i := 15) (v := _) (by simp only [gA, gB, gC]; rfl) (by kernel_rfl) (by kernel_rfl) (by kernel_rfl) (by exact fun c a w h => hQp.out c a _ _ w h) (yields_cellI (by rfl) _ rfl ⟨bw, 1, none⟩ rfl (.int .i64 G3.md) (fun _ q => (q.cell (p := ⟨bw, 1, none⟩) (World.block_lt_of_cell? _ _ zwm)).trans zwm) intI_load) (by assumption) ?_; (try simp only [Act.put, sA, sB, sC, hmxe, gt_iff_lt, ge_iff_le, g1, g2, g3, g4])
  refine wpAnyH_take (i := 16) (v := ?_) (by simp only [gA, gB, gC]; rfl) (by kernel_rfl) (by kernel_rfl) (by kernel_rfl) (by exact fun c a w h => hQp.out c a _ _ w h) (Or.inl ⟨by rfl, ?_⟩) (by assumption) ?_; rotate_left; (focus (intro w hSw; (try dsimp only at hSw); go_simp; try with_reducible rfl)); (try simp only [Act.put, sA, sB, sC, hmxe, gt_iff_lt, ge_iff_le, g1, g2, g3, g4])
  refine wpAnyH_take (i := 17) (v := ?_) (by simp only [gA, gB, gC]; rfl) (by kernel_rfl) (by kernel_rfl) (by kernel_rfl) (by exact fun c a w h => hQp.out c a _ _ w h) (Or.inl ⟨by rfl, ?_⟩) (by assumption) ?_; rotate_left; (focus (intro w hSw; (try dsimp only at hSw); go_simp; try with_reducible rfl)); (try simp only [Act.put, sA, sB, sC, hmxe, gt_iff_lt, ge_iff_le, g1, g2, g3, g4])
  refine wpAnyH_take (i := 18) (v := ?_) (by simp only [gA, gB, gC]; rfl) (by kernel_rfl) (by kernel_rfl) (by kernel_rfl) (by exact fun c a w h => hQp.out c a _ _ w h) (Or.inl ⟨by rfl, ?_⟩) (by assumption) ?_; rotate_left; (focus (intro w hSw; (try dsimp only at hSw); go_simp; try with_reducible rfl)); (try simp only [Act.put, sA, sB, sC, hmxe, gt_iff_lt, ge_iff_le, g1, g2, g3, g4])
  refine wpAnyH_take (i := 19) (v := ?_) (by simp only [gA, gB, gC]; rfl) (by kernel_rfl) (by kernel_rfl) (by kernel_rfl) (by exact fun c a w h => hQp.out c a _ _ w h) (Or.inl ⟨by rfl, ?_⟩) (by assumption) ?_; rotate_left; (focus (intro w hSw; (try dsimp only at hSw); go_simp; try with_reducible rfl)); (try simp only [Act.put, sA, sB, sC, hmxe, gt_iff_lt, ge_iff_le, g1, g2, g3, g4])
  refine wpAnyH_take (i := 20) (v := ?_) (by simp only [gA, gB, gC]; rfl) (by kernel_rfl) (by kernel_rfl) (by kernel_rfl) (by exact fun c a w h => hQp.out c a _ _ w h) (Or.inl ⟨by rfl, ?_⟩) (by assumption) ?_; rotate_left; (focus (intro w hSw; (try dsimp only at hSw); go_simp; try with_reducible rfl)); (try simp only [Act.put, sA, sB, sC, hmxe, gt_iff_lt, ge_iff_le, g1, g2, g3, g4])
  refine wpAnyH_take (i := 21) (v := ?_) (by simp only [gA, gB, gC]; rfl) (by kernel_rfl) (by kernel_rfl) (by kernel_rfl) (by exact fun c a w h => hQp.out c a _ _ w h) (Or.inl ⟨by rfl, ?_⟩) (by assumption) ?_; rotate_left; (focus (intro w hSw; (try dsimp only at hSw); go_simp; try with_reducible rfl)); (try simp only [Act.put, sA, sB, sC, hmxe, gt_iff_lt, ge_iff_le, g1, g2, g3, g4])
  refine wpAnyH_take (i := 22) (v := ?_) (by simp only [gA, gB, gC]; rfl) (by kernel_rfl) (by kernel_rfl) (by kernel_rfl) (by exact fun c a w h => hQp.out c a _ _ w h) (Or.inl ⟨by rfl, ?_⟩) (by assumption) ?_; rotate_left; (focus (intro w hSw; (try dsimp only at hSw); go_simp; try with_reducible rfl)); (try simp only [Act.put, sA, sB, sC, hmxe, gt_iff_lt, ge_iff_le, g1, g2, g3, g4])
  refine wpAnyH_take (i := 23) (v := ?_) (by simp only [gA, gB, gC]; rfl) (by kernel_rfl) (by kernel_rfl) (by kernel_rfl) (by exact fun c a w h => hQp.out c a _ _ w h) (Or.inl ⟨by rfl, ?_⟩) (by assumption) ?_; rotate_left; (focus (intro w hSw; (try dsimp only at hSw); go_simp; try with_reducible rfl)); (try simp only [Act.put, sA, sB, sC, hmxe, gt_iff_lt, ge_iff_le, g1, g2, g3, g4])
  refine wpAnyH_take (i := 24) (v := _) (by simp only [gA, gB, gC]; rfl) (by kernel_rfl) (by kernel_rfl) (by kernel_rfl) (by exact fun c a w h => hQp.out c a _ _ w h) (yields_cellI (by rfl) _ rfl ⟨bm, 3, none⟩ rfl (.int .i64 (jo : Int)) (fun _ q => (q.cell (p := ⟨bm, 3, none⟩) (World.block_lt_of_cell? _ _ zmo)).trans zmo) intI_load) (by assumption) ?_; (try simp only [Act.put, sA, sB, sC, hmxe, gt_iff_lt, ge_iff_le, g1, g2, g3, g4])
  refine wpAnyH_take (i := 25) (v := ?_) (by simp only [gA, gB, gC]; rfl) (by kernel_rfl) (by kernel_rfl) (by kernel_rfl) (by exact fun c a w h => hQp.out c a _ _ w h) (Or.inl ⟨by rfl, ?_⟩) (by assumption) ?_; rotate_left; (focus (intro w hSw; (try dsimp only at hSw); go_simp; try with_reducible rfl)); (try simp only [Act.put, sA, sB, sC, hmxe, gt_iff_lt, ge_iff_le, g1, g2, g3, g4])
  refine wpAnyH_take (i := 26) (v := ?_) (by simp only [gA, gB, gC]; rfl) (by kernel_rfl) (by kernel_rfl) (by kernel_rfl) (by exact fun c a w h => hQp.out c a _ _ w h) (Or.inl ⟨by rfl, ?_⟩) (by assumption) ?_; rotate_left; (focus (intro w hSw; (try dsimp only at hSw); go_simp; try with_reducible rfl)); (try simp only [Act.put, sA, sB, sC, hmxe, gt_iff_lt, ge_iff_le, g1, g2, g3, g4])
  refine wpAnyH_take (i := 27) (v := ?_) (by simp only [gA, gB, gC]; rfl) (by kernel_rfl) (by kernel_rfl) (by kernel_rfl) (by exact fun c a w h => hQp.out c a _ _ w h) (Or.inl ⟨by rfl, ?_⟩) (by assumption) ?_; rotate_left; (focus (intro w hSw; (try dsimp only at hSw); go_simp; try with_reducible rfl)); (try simp only [Act.put, sA, sB, sC, hmxe, gt_iff_lt, ge_iff_le, g1, g2, g3, g4])
  refine wpAnyH_take (i := 28) (v := ?_) (by simp only [gA, gB, gC]; rfl) (by kernel_rfl) (by kernel_rfl) (by kernel_rfl) (by exact fun c a w h => hQp.out c a _ _ w h) (Or.inl ⟨by rfl, ?_⟩) (by assumption) ?_; rotate_left; (focus (intro w hSw; (try dsimp only at hSw); go_simp; try with_reducible rfl)); (try simp only [Act.put, sA, sB, sC, hmxe, gt_iff_lt, ge_iff_le, g1, g2, g3, g4])
  refine wpAnyH_take (i := 29) (v := ?_) (by simp only [gA, gB, gC]; rfl) (by kernel_rfl) (by kernel_rfl) (by kernel_rfl) (by exact fun c a w h => hQp.out c a _ _ w h) (Or.inl ⟨by rfl, ?_⟩) (by assumption) ?_; rotate_left; (focus (intro w hSw; (try dsimp only at hSw); go_simp; try with_reducible rfl)); (try simp only [Act.put, sA, sB, sC, hmxe, gt_iff_lt, ge_iff_le, g1, g2, g3, g4])
  refine wpAnyH_take (i := 30) (v := ?_) (by simp only [gA, gB, gC]; rfl) (by kernel_rfl) (by kernel_rfl) (by kernel_rfl) (by exact fun c a w h => hQp.out c a _ _ w h) (Or.inl ⟨by rfl, ?_⟩) (by assumption) ?_; rotate_left; (focus (intro w hSw; (try dsimp only at hSw); go_simp; try with_reducible rfl)); (try simp only [Act.put, sA, sB, sC, hmxe, gt_iff_lt, ge_iff_le, g1, g2, g3, g4])
  refine wpAnyH_take (i := 31) (v := ?_) (by simp only [gA, gB, gC]; rfl) (by kernel_rfl) (by kernel_rfl) (by kernel_rfl) (by exact fun c a w h => hQp.out c a _ _ w h) (Or.inl ⟨by rfl, ?_⟩) (by assumption) ?_; rotate_left; (focus (intro w hSw; (try dsimp only at hSw); go_simp; try with_reducible rfl)); (try simp only [Act.put, sA, sB, sC, hmxe, gt_iff_lt, ge_iff_le, g1, g2, g3, g4])
  refine wpAnyH_take (i := 32) (v := _) (by simp only [gA, gB, gC]; rfl) (by kernel_rfl) (by kernel_rfl) (by kernel_rfl) (by exact fun c a w h => hQp.out c a _ _ w h) (yields_cellI (by rfl) _ rfl ⟨bm, 3, none⟩ rfl (.int .i64 (jo : Int)) (fun _ q => (q.cell (p := ⟨bm, 3, none⟩) (World.block_lt_of_cell? _ _ zmo)).trans zmo) intI_load) (by assumption) ?_; (try simp only [Act.put, sA, sB, sC, hmxe, gt_iff_lt, ge_iff_le, g1, g2, g3, g4])
  refine wpAnyH_take (i := 33) (v := ?_) (by simp only [gA, gB, gC]; rfl) (by kernel_rfl) (by kernel_rfl) (by kernel_rfl) (by exact fun c a w h => hQp.out c a _ _ w h) (Or.inl ⟨by rfl, ?_⟩) (by assumption) ?_; rotate_left; (focus (intro w hSw; (try dsimp only at hSw); go_simp; try with_reducible rfl)); (try simp only [Act.put, sA, sB, sC, hmxe, gt_iff_lt, ge_iff_le, g1, g2, g3, g4])
  refine wpAnyH_take (i := 34) (v := _) (by simp only [gA, gB, gC]; rfl) (by kernel_rfl) (by kernel_rfl) (by kernel_rfl) (by exact fun c a w h => hQp.out c a _ _ w h) (yields_cellI (by rfl) _ rfl ⟨bw, 0, none⟩ rfl (.slice aw gn cw) (fun _ q => (q.cell (p := ⟨bw, 0, none⟩) (World.block_lt_of_cell? _ _ zww)).trans zww) wds_loadC) (by assumption) ?_; (try simp only [Act.put, sA, sB, sC, hmxe, gt_iff_lt, ge_iff_le, g1, g2, g3, g4])
  refine wpAnyH_take (i := 35) (v := ?_) (by simp only [gA, gB, gC]; rfl) (by kernel_rfl) (by kernel_rfl) (by kernel_rfl) (by exact fun c a w h => hQp.out c a _ _ w h) (Or.inl ⟨by rfl, ?_⟩) (by assumption) ?_; rotate_left; (focus (intro w hSw; (try dsimp only at hSw); go_simp; try with_reducible rfl)); (try simp only [Act.put, sA, sB, sC, hmxe, gt_iff_lt, ge_iff_le, g1, g2, g3, g4])
  refine wpAnyH_take (i := 36) (v := ?_) (by simp only [gA, gB, gC]; rfl) (by kernel_rfl) (by kernel_rfl) (by kernel_rfl) (by exact fun c a w h => hQp.out c a _ _ w h) (Or.inl ⟨by rfl, ?_⟩) (by assumption) ?_; rotate_left; (focus (intro w hSw; (try dsimp only at hSw); go_simp; try with_reducible rfl)); (try simp only [Act.put, sA, sB, sC, hmxe, gt_iff_lt, ge_iff_le, g1, g2, g3, g4])
  refine wpAnyH_take (i := 37) (v := ?_) (by simp only [gA, gB, gC]; rfl) (by kernel_rfl) (by kernel_rfl) (by kernel_rfl) (by exact fun c a w h => hQp.out c a _ _ w h) (Or.inl ⟨by rfl, ?_⟩) (by assumption) ?_; rotate_left; (focus (intro w hSw; (try dsimp only at hSw); go_simp; try with_reducible rfl)); (try simp only [Act.put, sA, sB, sC, hmxe, gt_iff_lt, ge_iff_le, g1, g2, g3, g4])
  refine wpAnyH_done (by kernel_rfl) ?_ _
  replace hsq := hsq.keep hS0
  replace hTq := hTq.keep hS0
  replace hmq := stab_blk _ _ _ _ hmq hS0
  replace hoTq := hoTq.below hS0
  replace hMRq := hMRq.below hS0
  replace hBq := Below.then hBq hS0
  clear zdr zip zpr zwa zwm zww zmo i6 i7 g1 g2 g3 g4 hS0 hmxe hbw17 hiq hmx hmd
  have hrL := hMRq.mv.row
  obtain ⟨z3, hz3, -⟩ := hrL.row ks x3 hx3
  subst hz3
  have hcl3 := hrL.row.at pg_len hx3
  have hc1 : w0.cell? ⟨(z3.add (ks * 7)).block, (z3.add (ks * 7)).off + 1, none⟩ = some x3.v := hcl3 1 _ rfl
  have hmem := List.mem_of_getElem? hx3
  have hx3At : RowAt 1 wcl w0 x3.wa x3.g.ws := hrL.at_ x3 hmem
  have hgn3 : x3.g.ws.length = gn := by rw [hx3g]; exact hgn
  obtain ⟨xw, hxw⟩ : ∃ xw, x3.g.ws[jo]? = some xw := ⟨_, List.getElem?_eq_getElem (by omega)⟩
  have hwa : x3.wa = none → x3.wc = 0 ∧ gn = 0 := fun q => ⟨hMG.cap x3 hmem q, by
    obtain ⟨y, hy, -⟩ := hx3At jo xw hxw
    rw [q] at hy
    cases hy⟩
  have hv3 : x3.v = .slice x3.wa gn x3.wc := by unfold PG.v; rw [hgn3]
  rw [hv3] at hc1
  have hgn9 : gn < 900000 := by have := (hMG.ok x3 hmem).len; omega
  obtain ⟨vc, W18, hap, hoc, hb18⟩ := wasW_run wd_okC hx3At hgn3 hwa hgn9
  obtain ⟨gc, cc, hvc, hgc, hgcl⟩ := hoc.form (by omega)
  rw [hgn3] at hvc
  subst hvc
  have x2 := (hmq.1 2 (.int .i64 (ks : Int)) rfl).1
  have i8 : (ks : Int) < (ml : Int) := by omega
  have i9 : ¬ (ks : Int) < 0 := by omega
  have i10 : ¬ (ml : Int) ≤ (ks : Int) := by omega
  replace hgn3 : Aside (x3.g.ws.length = gn) := hgn3
  replace hx3g : Aside (x3.g = G3) := hx3g
  have hal := alloc_below w0 (.cells #[] 2)
  have x2a := (hal.cell (p := ⟨bm, 2, none⟩) hmq.2).trans x2
  have hc1a := (hal.cell (p := ⟨(z3.add (ks * 7)).block, (z3.add (ks * 7)).off + 1, none⟩) (World.block_lt_of_cell? _ _ hc1)).trans hc1
  clear hwa hv3 hgn hcl3 hx3At hal x2 hc1
  go_upto_region 31 with (first | (refine wpList_build0W wd_okC rfl rfl ?_) | (refine wpList_append rfl _ _ rfl rfl rfl rfl hap ?_) | fail)
  clear hap hc1a x2a
  have hmo18 := (hb18.cell (p := ⟨bm, 3, none⟩) hmq.2).trans (hmq.1 3 (.int .i64 (jo : Int)) rfl).1
  have hmy18 := (hb18.cell (p := ⟨bm, 4, none⟩) hmq.2).trans (hmq.1 4 (.int .i64 y9) rfl).1
  have hmlt : bm < w0.heap.size := hmq.2
  have hS0 : Below w0.heap.size W18 W18.drew := ((Below.refl W18.heap.size W18).drew).mono hb18.size
  have hocd := hoc.below (Below.refl W18.heap.size W18).drew
  have i11 : (jo : Int) < (gn : Int) := by omega
  have i12 : ¬ (jo : Int) < 0 := by omega
  have i13 : ¬ (gn : Int) ≤ (jo : Int) := by omega
  refine wp_region_held_drew (S := (fun W => Below w0.heap.size W18 W)) (by kernel_rfl) (by exact hS0) ?_
  intro hHeld
  generalize W18.drew = w1 at *
  obtain ⟨hoc19, hso19, hfz19, zz, hcz19⟩ := OwnR.stored (f := wcl) (sz := 1) (fun _ => rfl) hocd (show gn = x3.g.ws.length from hgn3.out.symm) (j := jo) (o := 0) (y := y9) (u := .int .i64 y9) hxw (by decide) rfl
  simp only [Nat.mul_one, Nat.add_zero] at hoc19 hso19 hfz19 hcz19
  have hS19 : Below w0.heap.size W18 (w1.setCell ⟨gc, jo, none⟩ (.int .i64 y9)) := hso19.below hS0 hgc (Nat.le_trans hb18.size hS0.size)
  refine wpAnyH_take (i := 0) (v := ?_) (by simp only [gA, gB, gC]; rfl) (by kernel_rfl) (by kernel_rfl) (by kernel_rfl) (by exact fun c a w h => hQp.out c a _ _ w h) (Or.inl ⟨by rfl, ?_⟩) (by assumption) ?_; rotate_left; (focus (intro w hSw; (try dsimp only at hSw); go_simp; try with_reducible rfl)); (try simp only [Act.put, sA, sB, sC])
  refine wpAnyH_take (i := 1) (v := ?_) (by simp only [gA, gB, gC]; rfl) (by kernel_rfl) (by kernel_rfl) (by kernel_rfl) (by exact fun c a w h => hQp.out c a _ _ w h) (Or.inl ⟨by rfl, ?_⟩) (by assumption) ?_; rotate_left; (focus (intro w hSw; (try dsimp only at hSw); go_simp; try with_reducible rfl)); (try simp only [Act.put, sA, sB, sC])
  refine wpAnyH_take (i := 2) (v := ?_) (by simp only [gA, gB, gC]; rfl) (by kernel_rfl) (by kernel_rfl) (by kernel_rfl) (by exact fun c a w h => hQp.out c a _ _ w h) (Or.inl ⟨by rfl, ?_⟩) (by assumption) ?_; rotate_left; (focus (intro w hSw; (try dsimp only at hSw); go_simp; try with_reducible rfl)); (try simp only [Act.put, sA, sB, sC])
  refine wpAnyH_take (i := 3) (v := ?_) (by simp only [gA, gB, gC]; rfl) (by kernel_rfl) (by kernel_rfl) (by kernel_rfl) (by exact fun c a w h => hQp.out c a _ _ w h) (Or.inl ⟨by rfl, ?_⟩) (by assumption) ?_; rotate_left; (focus (intro w hSw; (try dsimp only at hSw); go_simp; try with_reducible rfl)); (try simp only [Act.put, sA, sB, sC])
  refine wpAnyH_take (i := 4) (v := ?_) (by simp only [gA, gB, gC]; rfl) (by kernel_rfl) (by kernel_rfl) (by kernel_rfl) (by exact fun c a w h => hQp.out c a _ _ w h) (Or.inl ⟨by rfl, ?_⟩) (by assumption) ?_; rotate_left; (focus (intro w hSw; (try dsimp only at hSw); go_simp; try with_reducible rfl)); (try simp only [Act.put, sA, sB, sC])
  refine wpAnyH_take (i := 5) (v := _) (by simp only [gA, gB, gC]; rfl) (by kernel_rfl) (by kernel_rfl) (by kernel_rfl) (by exact fun c a w h => hQp.out c a _ _ w h) (yields_cellI (by rfl) _ rfl ⟨bm, 3, none⟩ rfl (.int .i64 (jo : Int)) (fun _ q => (q.cell (p := ⟨bm, 3, none⟩) hmlt).trans hmo18) intI_load) (by assumption) ?_; (try simp only [Act.put, sA, sB, sC])
  refine wpAnyH_take (i := 6) (v := ?_) (by simp only [gA, gB, gC]; rfl) (by kernel_rfl) (by kernel_rfl) (by kernel_rfl) (by exact fun c a w h => hQp.out c a _ _ w h) (Or.inl ⟨by rfl, ?_⟩) (by assumption) ?_; rotate_left; (focus (intro w hSw; (try dsimp only at hSw); go_simp; try with_reducible rfl)); (try simp only [Act.put, sA, sB, sC])
  refine wpAnyH_take (i := 7) (v := ?_) (by simp only [gA, gB, gC]; rfl) (by kernel_rfl) (by kernel_rfl) (by kernel_rfl) (by exact fun c a w h => hQp.out c a _ _ w h) (Or.inl ⟨by rfl, ?_⟩) (by assumption) ?_; rotate_left; (focus (intro w hSw; (try dsimp only at hSw); go_simp; try with_reducible rfl)); (try simp only [Act.put, sA, sB, sC])
  refine wpAnyH_take (i := 8) (v := ?_) (by simp only [gA, gB, gC]; rfl) (by kernel_rfl) (by kernel_rfl) (by kernel_rfl) (by exact fun c a w h => hQp.out c a _ _ w h) (Or.inl ⟨by rfl, ?_⟩) (by assumption) ?_; rotate_left; (focus (intro w hSw; (try dsimp only at hSw); go_simp; try with_reducible rfl)); (try simp only [Act.put, sA, sB, sC])
  refine wpAnyH_take (i := 9) (v := ?_) (by simp only [gA, gB, gC]; rfl) (by kernel_rfl) (by kernel_rfl) (by kernel_rfl) (by exact fun c a w h => hQp.out c a _ _ w h) (Or.inl ⟨by rfl, ?_⟩) (by assumption) ?_; rotate_left; (focus (intro w hSw; (try dsimp only at hSw); go_simp; try with_reducible rfl)); (try simp only [Act.put, sA, sB, sC])
  refine wpAnyH_take (i := 10) (v := _) (by simp only [gA, gB, gC]; rfl) (by kernel_rfl) (by kernel_rfl) (by kernel_rfl) (by exact fun c a w h => hQp.out c a _ _ w h) (yields_cellI (by rfl) _ rfl ⟨bm, 4, none⟩ rfl (.int .i64 y9) (fun _ q => (q.cell (p := ⟨bm, 4, none⟩) hmlt).trans hmy18) i64C_load) (by assumption) ?_; (try simp only [Act.put, sA, sB, sC])
  refine wpAnyH_take (i := 11) (v := ?_) (by simp only [gA, gB, gC]; rfl) (by kernel_rfl) (by kernel_rfl) (by kernel_rfl) (by exact fun c a w h => hQp.out c a _ _ w h) (Or.inl ⟨by rfl, ?_⟩) (by assumption) ?_; rotate_left; (focus (intro w hSw; (try dsimp only at hSw); go_simp; try with_reducible rfl)); (try simp only [Act.put, sA, sB, sC])
  refine wpAnyH_ready (rs := [12]) (by kernel_rfl) (by simp) ?_
  refine AllReadyH.cons (by simp only [gA, gB, gC]; rfl) (fun K hK => ?_) AllReadyH.nil
  refine step_storeK rfl _ _ rfl ⟨gc, jo, none⟩ (by rfl) (.int .i64 y9) rfl (i64C_store _ _ _ _ hcz19 hfz19) ?_
  (try simp only [Act.put, sA, sB, sC])
  refine hK.out _ _ (hS19) ?_
  clear hHeld hK
  intro hHeld
  (try simp only [Act.put, sA, sB, sC])
  refine wpAnyH_done (by kernel_rfl) ?_ _
  generalize w1.setCell ⟨gc, jo, none⟩ (.int .i64 y9) = W19 at *
  have hb19 := hb18.trans hS19
  have hs19 := hsq.keep hb19
  have hT19 := hTq.keep hb19
  have hm19 := stab_blk _ _ _ _ hmq hb19
  have hoT19 := hoTq.below hb19
  have hMR19 := hMRq.below hb19
  have hB19 := Below.then hBq hb19
  have hbsl : bs < w0.heap.size := hsq.blk.2
  have hle19 : w0.heap.size ≤ W19.heap.size := hb19.size
  clear hHeld hS0 hocd hcz19 hfz19 hS19 hso19 hmo18 hmy18 hoc hb18 hb19 hsq hTq hmq hoTq hMRq hBq hrL i11 i12 i13 hmlt
  go_step
  rename_i K9 hK9
  refine hK9 _ _ ?_
  refine (show Code.wp Try.prog ringsT32 _ _ _ from rings_T32 (jo := jo) (ks := ks) hm19 hMR19 hml hx3 hgn3 hksl hL5 ?_)
  intro x309 x310 x311 x312 x313 x314 x315 x316 x317 x318 x319 x320 W21 gm cm hb21 hom21
  have hs21 := hs19.keep hb21
  have hT21 := hT19.keep hb21
  have hoT21 := hoT19.below hb21
  have hMR21 := hMR19.below hb21
  have hB21 := Below.then hB19 hb21
  have hoc21 := hoc19.below hb21
  have hmv := mvr_put hMR21 hMok hx3 hyf (by rw [hgn3.out]; exact hoc21) (by rw [hml.out]; exact hom21) hbsl (Nat.lt_of_lt_of_le hbsl hle19)
  rw [hml.out] at hmv
  obtain ⟨W22, hW22, hth22, hs22, hk22⟩ := put_st hs21 (d := T) hT4 vT
  have hB22 := hk22 _ _ hgs hB21
  have hv22 : SV vT T.st W22 := by
    rw [← hW22]
    exact SV.own (hoT21.mid (fun q => by have := (hoT21.lt q).1; omega) _ _)
  have hM22 := hmv.sole (W' := W22) (by rw [← hW22]; exact Sole.cells ⟨rfl, rfl, rfl, Nat.le_refl _, fun _ _ _ => rfl⟩ (.inl rfl) _ _)
  have hMk' := putX_ok hMok hx3 hyf jo gc cc
  have hL' : Aside ((L.set ks (putX x3 jo y9 gc cc)).length ≤ 5) := by
    show (L.set ks _).length ≤ 5
    rw [List.length_set]
    exact hL5.out
  have hr8 := hT21.blk.range
  have hone8 := st_one T vT (SV.own hoT21).one
  have hlen8 : (stCs T vT).length = 18 := st_len hT4
  obtain ⟨Y8, hY8⟩ : ∃ Y, stCs T vT = Y := ⟨_, rfl⟩
  rw [hY8] at hW22 hth22 hr8 hone8 hlen8
  have hszY8 : (Try.prog.info? 33).map (·.size) = some Y8.length := by rw [hlen8]; exact hszS
  clear hY8 hlen8 hs21 hT21 hoT21 hMR21 hB21 hk22 hmv
  go_wp2_with (first | (refine wpList_load_row rfl _ rfl bT rfl Y8 hr8 hundS rfl hszY8 ?_) | (refine wpList_store_row rfl _ _ rfl bs rfl Y8 rfl hth22 hszY8 hone8 hW22 ?_) | fail)
  exact hQ.out _ _ _ _ _ _ _ _ _ _ _ _ _ _ _ _ _ _ _ _ _ _ _ _ _ _ _ _ _ _ _ _ _ _ _ _ _ _ _ _ _ _ _ _ _ _ _ _ _ _ _ _ _ _ _ _ _ _ _ _ _ _ _ _ _ _ _ _ _ _ _ _ _ _ _ _ _ _ _ _ _ _ _ _ _ _ _ _ _ _ _ _ _ _ _ hM22 hMk' hL' hs22 hv22 hB22
end Go.Proofs.Ytinibccphecdfaa
