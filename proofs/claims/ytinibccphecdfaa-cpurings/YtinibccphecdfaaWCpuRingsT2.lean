/-
  CpuRings, walked in parts: the copies put.
-/
import Derived.Test.YtinibccphecdfaaWCpuRingsC
import Derived.Deep.CutBlock
namespace Go.Proofs.Ytinibccphecdfaa
open Go.RowKit
set_option maxRecDepth 8000
set_option linter.unusedSimpArgs false
set_option linter.unusedVariables false

set_option maxRecDepth 8000 in
set_option maxHeartbeats 8000000 in
theorem rings_T32 {u0 u1 u2 u3 u4 u5 u6 u8 u9 u11 u12 u13 u14 u15 u16 u17 u18 u19 u20 u21 u22 u23 u25 u26 u27 u28 u29 u30 u31 u32 u33 u34 u35 u36 u37 u38 u39 u40 u41 u42 u43 u44 u45 u46 u47 u48 u49 u50 u51 u52 u53 u54 u55 u56 u57 u58 u59 u60 u61 u62 u63 u64 u65 u66 u67 u68 u69 u70 u71 u72 u73 u74 u75 u76 u77 u78 u79 u80 u81 u82 u83 u84 u85 u86 u87 u88 u89 u90 u91 u92 u93 u94 u95 u96 u97 u98 u99 u100 u101 u102 u103 u104 u105 u106 u107 u108 u109 u110 u111 u112 u113 u114 u115 u116 u117 u118 u119 u120 u121 u122 u123 u124 u125 u126 u127 u128 u129 u130 u131 u132 u133 u134 u135 u136 u137 u138 u139 u140 u141 u142 u143 u144 u145 u146 u147 u148 u149 u150 u151 u152 u153 u154 u155 u156 u157 u158 u159 u160 u161 u162 u163 u164 u165 u166 u167 u168 u169 u170 u171 u172 u173 u174 u175 u176 u177 u178 u179 u180 u181 u182 u183 u184 u185 u186 u187 u188 u189 u190 u191 u192 u193 u194 u195 u196 u197 u198 u199 u200 u201 u202 u203 u204 u205 u206 u207 u208 u209 u210 u211 u212 u213 u214 u215 u216 u217 u218 u219 u220 u221 u222 u223 u224 u225 u226 u227 u228 u229 u230 u231 u232 u233 u234 u235 u236 u237 u238 u239 u240 u241 u242 u243 u244 u245 u246 u247 u248 u249 u250 u251 u252 u253 u254 u255 u256 u257 u258 u259 u260 u261 u262 u263 u264 u265 u266 u267 u268 u269 u270 u271 u272 u273 u274 u275 u276 u277 u278 u279 u280 u281 u282 u283 u284 u285 u286 u287 u288 u289 u290 u291 u292 u293 u294 u295 u296 u297 u298 u299 u300 u301 u302 u303 u304 u305 u306 u307 u308 u309 u310 u311 u312 u313 u314 u315 u316 u317 u318 u319 u320 u321 : Value} {W19 : World} {bs bm ml cL ks gc gn cc jo : Nat} {aL : Option Addr} {L : List PG} {x3 : PG} {y9 o9 : Int} {Q : Exit → Act → World → Prop}
    (hm19 : BlkL bm (memCs (.slice aL ml cL) true (ks : Int) o9 y9 1) W19) (hMR19 : MVR bs (.slice aL ml cL) L W19) (hml : Aside (L.length = ml)) (hx3 : L[ks]? = some x3) (hgn3 : Aside (x3.g.ws.length = gn)) (hksl : ks < ml) (hL5 : Aside (L.length ≤ 5))
    (hQ : Aside (∀ (x309 x310 x311 x312 x313 x314 x315 x316 x317 x318 x319 x320 : Value) (W21 : World) (gm cm : Nat), Below W19.heap.size W19 W21 → OwnR 57 7 PG.cs W21 W19.heap.size (.slice (some ⟨gm, 0, none⟩) ml cm) (L.set ks (putX x3 jo y9 gc cc)) → Q .normal ⟨#[u0, u1, u2, u3, u4, u5, u6, .slice (some ⟨gm, 0, none⟩) ml cm, u8, u9, .pointer (some ⟨bm, 0, none⟩), u11, u12, u13, u14, u15, u16, u17, u18, u19, u20, u21, u22, u23, .slice (some ⟨gc, 0, none⟩) gn cc, u25, u26, u27, u28, u29, u30, u31, u32, u33, u34, u35, u36, u37, u38, u39, u40, u41, u42, u43, u44, u45, u46, u47, u48, u49, u50, u51, u52, u53, u54, u55, u56, u57, u58, u59, u60, u61, u62, u63, u64, u65, u66, u67, u68, u69, u70, u71, u72, u73, u74, u75, u76, u77, u78, u79, u80, u81, u82, u83, u84, u85, u86, u87, u88, u89, u90, u91, u92, u93, u94, u95, u96, u97, u98, u99, u100, u101, u102, u103, u104, u105, u106, u107, u108, u109, u110, u111, u112, u113, u114, u115, u116, u117, u118, u119, u120, u121, u122, u123, u124, u125, u126, u127, u128, u129, u130, u131, u132, u133, u134, u135, u136, u137, u138, u139, u140, u141, u142, u143, u144, u145, u146, u147, u148, u149, u150, u151, u152, u153, u154, u155, u156, u157, u158, u159, u160, u161, u162, u163, u164, u165, u166, u167, u168, u169, u170, u171, u172, u173, u174, u175, u176, u177, u178, u179, u180, u181, u182, u183, u184, u185, u186, u187, u188, u189, u190, u191, u192, u193, u194, u195, u196, u197, u198, u199, u200, u201, u202, u203, u204, u205, u206, u207, u208, u209, u210, u211, u212, u213, u214, u215, u216, u217, u218, u219, u220, u221, u222, u223, u224, u225, u226, u227, u228, u229, u230, u231, u232, u233, u234, u235, u236, u237, u238, u239, u240, u241, u242, u243, u244, u245, u246, u247, u248, u249, u250, u251, u252, u253, u254, u255, u256, u257, u258, u259, u260, u261, u262, u263, u264, u265, u266, u267, u268, u269, u270, u271, u272, u273, u274, u275, u276, u277, u278, u279, u280, u281, u282, u283, u284, u285, u286, u287, u288, u289, u290, u291, u292, u293, u294, u295, u296, u297, u298, u299, u300, u301, u302, u303, u304, u305, u306, u307, u308, x309, x310, x311, x312, x313, x314, x315, x316, x317, x318, x319, x320, u321], []⟩ W21)) :
    Code.wp Try.prog ringsT32 Q ⟨#[u0, u1, u2, u3, u4, u5, u6, .slice aL ml cL, u8, u9, .pointer (some ⟨bm, 0, none⟩), u11, u12, u13, u14, u15, u16, u17, u18, u19, u20, u21, u22, u23, .slice (some ⟨gc, 0, none⟩) gn cc, u25, u26, u27, u28, u29, u30, u31, u32, u33, u34, u35, u36, u37, u38, u39, u40, u41, u42, u43, u44, u45, u46, u47, u48, u49, u50, u51, u52, u53, u54, u55, u56, u57, u58, u59, u60, u61, u62, u63, u64, u65, u66, u67, u68, u69, u70, u71, u72, u73, u74, u75, u76, u77, u78, u79, u80, u81, u82, u83, u84, u85, u86, u87, u88, u89, u90, u91, u92, u93, u94, u95, u96, u97, u98, u99, u100, u101, u102, u103, u104, u105, u106, u107, u108, u109, u110, u111, u112, u113, u114, u115, u116, u117, u118, u119, u120, u121, u122, u123, u124, u125, u126, u127, u128, u129, u130, u131, u132, u133, u134, u135, u136, u137, u138, u139, u140, u141, u142, u143, u144, u145, u146, u147, u148, u149, u150, u151, u152, u153, u154, u155, u156, u157, u158, u159, u160, u161, u162, u163, u164, u165, u166, u167, u168, u169, u170, u171, u172, u173, u174, u175, u176, u177, u178, u179, u180, u181, u182, u183, u184, u185, u186, u187, u188, u189, u190, u191, u192, u193, u194, u195, u196, u197, u198, u199, u200, u201, u202, u203, u204, u205, u206, u207, u208, u209, u210, u211, u212, u213, u214, u215, u216, u217, u218, u219, u220, u221, u222, u223, u224, u225, u226, u227, u228, u229, u230, u231, u232, u233, u234, u235, u236, u237, u238, u239, u240, u241, u242, u243, u244, u245, u246, u247, u248, u249, u250, u251, u252, u253, u254, u255, u256, u257, u258, u259, u260, u261, u262, u263, u264, u265, u266, u267, u268, u269, u270, u271, u272, u273, u274, u275, u276, u277, u278, u279, u280, u281, u282, u283, u284, u285, u286, u287, u288, u289, u290, u291, u292, u293, u294, u295, u296, u297, u298, u299, u300, u301, u302, u303, u304, u305, u306, u307, u308, u309, u310, u311, u312, u313, u314, u315, u316, u317, u318, u319, u320, u321], []⟩ W19 := by
  conv => arg 2; whnf
  have hML2 : ml ≤ 5 := by rw [← hml.out]; exact hL5.out
  have i8 : (ks : Int) < (ml : Int) := by omega
  have i9 : ¬ (ks : Int) < 0 := by omega
  have i10 : ¬ (ml : Int) ≤ (ks : Int) := by omega
  have hrow19 := hMR19.mv.row.row
  obtain ⟨z3, hz3, -⟩ := hrow19 ks x3 hx3
  subst hz3
  have hLp : 0 < L.length := by rw [hml.out]; omega
  obtain ⟨vm, W20, hap, hom, hb20⟩ := wasW_run pg_okC hrow19 hml.out (fun q => by cases q) (by omega)
  obtain ⟨gm, cm, hvm, hgm, hgml⟩ := hom.form hLp
  rw [hml.out] at hvm
  subst hvm
  go_upto_region 33 with (first | (refine wpList_build0W pg_okC rfl rfl ?_) | (refine wpList_append rfl _ _ rfl rfl rfl rfl hap ?_) | fail)
  clear hap
  obtain ⟨hom21, hso21, hfz21, zz2, hcz21⟩ := OwnR.stored (f := PG.cs) (sz := 7) pg_len hom hml.out.symm (j := ks) (o := 1) (y := putX x3 jo y9 gc cc) (u := .slice (some ⟨gc, 0, none⟩) gn cc) hx3 (by decide) (by rw [← hgn3.out]; exact putX_cs x3 jo y9 gc cc)
  have hb21 := hso21.below hb20 hgm hb20.size
  have x2 := (hb20.cell (p := ⟨bm, 2, none⟩) hm19.2).trans (hm19.1 2 (.int .i64 (ks : Int)) rfl).1
  go_upto_region 34 with fail
  clear x2 hfz21 hcz21 hso21 hom hb20 hgml
  generalize W20.setCell ⟨gm, ks * 7 + 1, none⟩ (.slice (some ⟨gc, 0, none⟩) gn cc) = W21 at *
  exact hQ.out _ _ _ _ _ _ _ _ _ _ _ _ _ _ _ hb21 hom21
end Go.Proofs.Ytinibccphecdfaa
