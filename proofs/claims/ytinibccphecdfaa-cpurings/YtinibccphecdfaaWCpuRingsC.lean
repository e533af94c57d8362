/-
  CpuRings, walked in parts: codes, region 19.
-/
import Derived.Test.YtinibccphecdfaaWCpuRingsP
import Derived.Test.YtinibccphecdfaaWCpuPut
import Derived.Deep.CutBlock
namespace Go.Proofs.Ytinibccphecdfaa
open Go.RowKit
set_option maxRecDepth 8000
set_option linter.unusedSimpArgs false
set_option linter.unusedVariables false

/-- Ways into a code. -/
def rsL : Code → Code
  | .seq a _ => a
  | c => c
def rsR : Code → Code
  | .seq _ b => b
  | c => c
def rsI : Code → Code
  | .block _ c => c
  | .loop c => c
  | c => c
/-- The loop's own block, its regions 19 and 24, and what follows the loop over j. -/
noncomputable def ringsB : Code := rsI (rsL (rsR (rsI (rsI (rsR (rsL (rsR (rsR (rsR (rsR (Try.f4.body.getD .skip)))))))))))
noncomputable def ringsR9 : Code := rsR (rsR (rsR (rsR (rsR (rsR (rsR (rsR ringsB)))))))
noncomputable def ringsR19 : Code := rsL (rsL ringsR9)
noncomputable def ringsT : Code := rsR (rsR ringsR9)
def rsC : Code → Code
  | .cond _ a _ => a
  | c => c
noncomputable def ringsT32 : Code := rsR (rsR (rsR (rsR (rsC (rsR (rsL ringsT))))))
noncomputable def ringsR24 : Code := rsL (rsI (rsL (rsR (rsI (rsI (rsR (rsL (rsR ringsR9))))))))
set_option maxRecDepth 8000 in
set_option maxHeartbeats 8000000 in
theorem rings_r19 {u0 u1 u2 u3 u4 u5 u6 u7 u9 u10 u11 u12 u14 u15 u16 u18 u21 u22 u23 u24 u25 u26 u27 u28 u29 u30 u31 u32 u33 u34 u35 u36 u37 u38 u39 u40 u41 u42 u43 u44 u45 u46 u47 u48 u49 u50 u51 u52 u53 u54 u55 u56 u57 u58 u59 u60 u61 u62 u63 u64 u65 u66 u67 u68 u69 u70 u71 u72 u73 u74 u75 u76 u77 u78 u79 u80 u81 u82 u83 u84 u85 u86 u87 u88 u89 u90 u91 u92 u93 u94 u95 u96 u97 u98 u99 u100 u101 u102 u103 u104 u105 u106 u107 u108 u109 u110 u111 u112 u113 u114 u115 u116 u117 u118 u119 u120 u121 u122 u123 u124 u125 u126 u127 u128 u129 u130 u131 u132 u133 u134 u135 u136 u137 u138 u139 u140 u141 u142 u143 u144 u145 u146 u147 u148 u149 u150 u151 u152 u153 u154 u155 u156 u157 u158 u159 u160 u161 u162 u163 u164 u165 u166 u167 u168 u169 u170 u171 u172 u173 u174 u175 u176 u177 u178 u179 u180 u181 u182 u183 u184 u185 u186 u187 u188 u189 u190 u191 u192 u193 u194 u195 u196 u197 u198 u199 u200 u201 u202 u203 u204 u205 u206 u207 u208 u209 u210 u211 u212 u213 u214 u215 u216 u217 u218 u219 u220 u221 u222 u223 u224 u225 u226 u227 u228 u229 u230 u231 u232 u233 u234 u235 u236 u237 u238 u239 u240 u241 u242 u243 u244 u245 u246 u247 u248 u249 u250 u251 u252 u253 u254 u255 u256 u257 u258 u259 u260 u261 u262 u263 u264 u265 u266 u267 u268 u269 u270 u271 u272 u273 u274 u275 u276 u277 u278 u279 u280 u281 u282 u283 u284 u285 u286 u287 u288 u289 u290 u291 u292 u293 u294 u295 u296 u297 u298 u299 u300 u301 u302 u303 u304 u305 u306 u307 u308 u309 u310 u311 u312 u313 u314 u315 u316 u317 u318 u319 u320 u321 : Value} {W14 : World} {bs bT bi bg2 : Nat} {d T : Cp} {i : Ins} {G2 : Sg} {Q : Exit → Act → World → Prop}
    (xT2 : W14.cell? ⟨bT, 2, none⟩ = some (.int .i64 T.ring)) (xT1 : W14.cell? ⟨bT, 1, none⟩ = some (.int .i64 T.off)) (xs2 : W14.cell? ⟨bs, 2, none⟩ = some (.int .i64 d.ring)) (xi0 : W14.cell? ⟨bi, 0, none⟩ = some (.int .i64 i.o))
    (xg3 : W14.cell? ⟨bg2, 3, none⟩ = some (.int .i64 (tellG G2).rg.b)) (xg4 : W14.cell? ⟨bg2, 4, none⟩ = some (.int .i64 (tellG G2).rg.c)) (xg5 : W14.cell? ⟨bg2, 5, none⟩ = some (.int .i64 (tellG G2).rg.g))
    (hdn : Aside (T.ring < d.ring → i.o = 20 ∧ G2.is = true ∧ T.ring = G2.rg.b ∧ d.ring ≤ G2.rg.c ∧ T.off < G2.rg.g)) (hup : Aside (d.ring < T.ring → i.o = 20 ∨ i.o = 21))
    (hQ : Aside (∀ x97 x98 x99 x100 x101 x102 x103 x104 x105 x106 x107 x108 x109 x110 x111 x112 x113 x114 x115 x116 x117 x118 x119 x120 x121 x122 x123 x124 x125 x126 x127 x128 x129 x130 x131 x132 x133 x134 x135 x136 x137 x138 x139 x140 x141 x142 x143 x144 x145 x146 x147 x148 x149 x150 : Value, Q .normal ⟨#[u0, u1, u2, u3, u4, u5, u6, u7, .pointer (some ⟨bs, 0, none⟩), u9, u10, u11, u12, .pointer (some ⟨bT, 0, none⟩), u14, u15, u16, .pointer (some ⟨bi, 0, none⟩), u18, .pointer (some ⟨bg2, 0, none⟩), .bool G2.is, u21, u22, u23, u24, u25, u26, u27, u28, u29, u30, u31, u32, u33, u34, u35, u36, u37, u38, u39, u40, u41, u42, u43, u44, u45, u46, u47, u48, u49, u50, u51, u52, u53, u54, u55, u56, u57, u58, u59, u60, u61, u62, u63, u64, u65, u66, u67, u68, u69, u70, u71, u72, u73, u74, u75, u76, u77, u78, u79, u80, u81, u82, u83, u84, u85, u86, u87, u88, u89, u90, u91, u92, u93, u94, u95, u96, x97, x98, x99, x100, x101, x102, x103, x104, x105, x106, x107, x108, x109, x110, x111, x112, x113, x114, x115, x116, x117, x118, x119, x120, x121, x122, x123, x124, x125, x126, x127, x128, x129, x130, x131, x132, x133, x134, x135, x136, x137, x138, x139, x140, x141, x142, x143, x144, x145, x146, x147, x148, x149, x150, .bool false, u152, u153, u154, u155, u156, u157, u158, u159, u160, u161, u162, u163, u164, u165, u166, u167, u168, u169, u170, u171, u172, u173, u174, u175, u176, u177, u178, u179, u180, u181, u182, u183, u184, u185, u186, u187, u188, u189, u190, u191, u192, u193, u194, u195, u196, u197, u198, u199, u200, u201, u202, u203, u204, u205, u206, u207, u208, u209, u210, u211, u212, u213, u214, u215, u216, u217, u218, u219, u220, u221, u222, u223, u224, u225, u226, u227, u228, u229, u230, u231, u232, u233, u234, u235, u236, u237, u238, u239, u240, u241, u242, u243, u244, u245, u246, u247, u248, u249, u250, u251, u252, u253, u254, u255, u256, u257, u258, u259, u260, u261, u262, u263, u264, u265, u266, u267, u268, u269, u270, u271, u272, u273, u274, u275, u276, u277, u278, u279, u280, u281, u282, u283, u284, u285, u286, u287, u288, u289, u290, u291, u292, u293, u294, u295, u296, u297, u298, u299, u300, u301, u302, u303, u304, u305, u306, u307, u308, u309, u310, u311, u312, u313, u314, u315, u316, u317, u318, u319, u320, u321], []⟩ W14)) :
    Code.wp Try.prog ringsR19 Q ⟨#[u0, u1, u2, u3, u4, u5, u6, u7, .pointer (some ⟨bs, 0, none⟩), u9, u10, u11, u12, .pointer (some ⟨bT, 0, none⟩), u14, u15, u16, .pointer (some ⟨bi, 0, none⟩), u18, .pointer (some ⟨bg2, 0, none⟩), .bool G2.is, u21, u22, u23, u24, u25, u26, u27, u28, u29, u30, u31, u32, u33, u34, u35, u36, u37, u38, u39, u40, u41, u42, u43, u44, u45, u46, u47, u48, u49, u50, u51, u52, u53, u54, u55, u56, u57, u58, u59, u60, u61, u62, u63, u64, u65, u66, u67, u68, u69, u70, u71, u72, u73, u74, u75, u76, u77, u78, u79, u80, u81, u82, u83, u84, u85, u86, u87, u88, u89, u90, u91, u92, u93, u94, u95, u96, u97, u98, u99, u100, u101, u102, u103, u104, u105, u106, u107, u108, u109, u110, u111, u112, u113, u114, u115, u116, u117, u118, u119, u120, u121, u122, u123, u124, u125, u126, u127, u128, u129, u130, u131, u132, u133, u134, u135, u136, u137, u138, u139, u140, u141, u142, u143, u144, u145, u146, u147, u148, u149, u150, u151, u152, u153, u154, u155, u156, u157, u158, u159, u160, u161, u162, u163, u164, u165, u166, u167, u168, u169, u170, u171, u172, u173, u174, u175, u176, u177, u178, u179, u180, u181, u182, u183, u184, u185, u186, u187, u188, u189, u190, u191, u192, u193, u194, u195, u196, u197, u198, u199, u200, u201, u202, u203, u204, u205, u206, u207, u208, u209, u210, u211, u212, u213, u214, u215, u216, u217, u218, u219, u220, u221, u222, u223, u224, u225, u226, u227, u228, u229, u230, u231, u232, u233, u234, u235, u236, u237, u238, u239, u240, u241, u242, u243, u244, u245, u246, u247, u248, u249, u250, u251, u252, u253, u254, u255, u256, u257, u258, u259, u260, u261, u262, u263, u264, u265, u266, u267, u268, u269, u270, u271, u272, u273, u274, u275, u276, u277, u278, u279, u280, u281, u282, u283, u284, u285, u286, u287, u288, u289, u290, u291, u292, u293, u294, u295, u296, u297, u298, u299, u300, u301, u302, u303, u304, u305, u306, u307, u308, u309, u310, u311, u312, u313, u314, u315, u316, u317, u318, u319, u320, u321], []⟩ W14 := by
  conv => arg 2; whnf
  by_cases h1 : T.ring < d.ring
  · obtain ⟨o20, g2, e1, e2, e3⟩ := hdn.out h1
    have ht2 : tellG G2 = G2 := by unfold tellG; rw [if_pos g2]
    rw [ht2] at xg3 xg4 xg5
    rw [← e1] at xg3
    rw [o20] at xi0
    have f1 : ¬ G2.rg.c < d.ring := by omega
    have f2 : ¬ G2.rg.g ≤ T.off := by omega
    have f3 : ¬ d.ring < T.ring := by omega
    clear e1 e2 e3 ht2
    rw [g2] at hQ ⊢
    go_wp2_with fail
    exact hQ.out _ _ _ _ _ _ _ _ _ _ _ _ _ _ _ _ _ _ _ _ _ _ _ _ _ _ _ _ _ _ _ _ _ _ _ _ _ _ _ _ _ _ _ _ _ _ _ _ _ _ _ _ _ _
  · by_cases h2 : d.ring < T.ring
    · rcases hup.out h2 with o | o
      · rw [o] at xi0
        go_wp2_with fail
        exact hQ.out _ _ _ _ _ _ _ _ _ _ _ _ _ _ _ _ _ _ _ _ _ _ _ _ _ _ _ _ _ _ _ _ _ _ _ _ _ _ _ _ _ _ _ _ _ _ _ _ _ _ _ _ _ _
      · rw [o] at xi0
        go_wp2_with fail
        exact hQ.out _ _ _ _ _ _ _ _ _ _ _ _ _ _ _ _ _ _ _ _ _ _ _ _ _ _ _ _ _ _ _ _ _ _ _ _ _ _ _ _ _ _ _ _ _ _ _ _ _ _ _ _ _ _
    · go_wp2_with fail
      exact hQ.out _ _ _ _ _ _ _ _ _ _ _ _ _ _ _ _ _ _ _ _ _ _ _ _ _ _ _ _ _ _ _ _ _ _ _ _ _ _ _ _ _ _ _ _ _ _ _ _ _ _ _ _ _ _
end Go.Proofs.Ytinibccphecdfaa
