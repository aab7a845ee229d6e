/- CellsActs' switch: kind 2, a swap that isn't asked, and one that isn't done. A theorem of its own over that piece of the code: all of it in one is too much for the kernel. -/
import Derived.Test.YticlmcoegcfanaaActsC
import Derived.Test.YticlmcoegcfanaaPiece
namespace Go.Proofs.Yticlmcoegcfanaa.acts
open Go Go.RowKit Go.Proofs.Yticlmcoegcfanaa.base Go.Proofs.Yticlmcoegcfanaa.ar Go.Proofs.Yticlmcoegcfanaa.ds Go.Proofs.Yticlmcoegcfanaa.rf Go.Proofs.Yticlmcoegcfanaa.mm Go.Proofs.Yticlmcoegcfanaa.vl Go.Proofs.Yticlmcoegcfanaa.ce
set_option linter.unusedVariables false

set_option maxRecDepth 100000 in
set_option maxHeartbeats 8000000 in
theorem sw2no (w : World) (b0 b1 cb tb ab vb L : Nat) (N : Int) (q : Nat) (K A Bb Cc V : Int) (u : World) (rs : List Rc) (hd : List Int) (m : Nat) (is : Int → Bool) (num : Int → Nat → Int) (B : Int) (F : Nat → Prop) (m2 : Nat) (st : Int → Option Int) (G : Nat → Prop)
    (H : Hid (Bt w b0 b1 cb tb ab vb b1 N q #[.int .i64 K, .int .i64 A, .int .i64 Bb, .int .i64 Cc, .int .i64 V] u rs hd m is num B F rs hd m2 st G)) (I : Hid (Inv N L rs hd m is num st)) (hA : Hid (0 ≤ B ∧ B ≤ 800000)) (hN1 : 1 ≤ N ∧ N ≤ 64) (hL : L ≤ 8) (hm2 : Hid (m2 ≤ 1000)) (hwA : Hid ((Lit.int .i64 A).wf = true)) (hwB : Hid ((Lit.int .i64 Bb).wf = true)) (hwC : Hid ((Lit.int .i64 Cc).wf = true)) (e2 : K = 2) (j : Nat) (p : Int) (hjA : A = (j : Int)) (hp : Hid (hd[j]? = some p)) (hjl : j < L) (hpe0 : p = Bb) (hKC : Hid (¬ IsK rs Cc 2))
    (v0 v1 v2 v3 v4 v5 v6 v7 v8 v11 v12 v14 v16 v17 v18 v19 v20 v21 v22 v23 v24 v25 v26 v27 v28 v29 v30 v31 v32 v33 v34 v35 v36 v37 v38 v39 v40 v41 v42 v43 v44 v45 v46 v47 v48 v49 v50 v51 v52 v53 v54 v55 v56 v57 v58 v59 v60 v61 v62 v63 v64 v65 v66 v67 v68 v69 v70 v71 v72 v73 v74 v75 v76 v77 v78 v79 v80 v81 v82 v83 v84 v85 v86 v87 v88 v89 v90 v91 v92 v93 v94 v95 v96 v97 v98 v99 v100 v102 v103 v104 v105 v106 v107 v108 v109 v110 v111 v112 v113 v114 v115 v116 v117 v118 v119 v120 v121 v122 v123 v124 v125 v126 v127 v128 v129 v130 v131 v132 v133 v134 v135 v136 v137 v138 v139 v140 v141 v142 v143 v144 v145 v146 v147 v148 v149 v150 v151 v152 v153 v154 v155 v156 v157 v158 v159 v160 v161 v162 v163 v164 v165 v166 v167 v168 v169 v170 v171 v172 v173 v174 v175 v176 v177 v178 v179 v180 v181 v182 v183 v184 v185 v186 v187 v188 v189 v190 v191 v192 v193 v194 v195 v196 v197 v198 v199 v200 v201 v202 v203 v204 v205 v206 v207 v208 v209 v210 v211 v212 v213 v214 v215 v216 v217 v218 v219 v220 v221 v222 v223 v224 v225 v226 v227 v228 v229 v230 v231 v232 v233 v234 v235 v236 v237 v238 v239 v240 v241 v242 v243 v244 v245 v246 v247 v248 v249 v250 v251 v252 v253 v254 v255 v256 v257 v258 v259 v260 v261 v262 v263 v264 v265 v266 v267 v268 v269 v270 v271 v272 v273 v274 v275 v276 v277 v278 v279 v280 v281 v282 v283 v284 v285 v286 v287 v288 v289 v290 v291 v292 v293 v294 v295 v296 v297 v298 v299 v300 v301 v302 v303 v304 v305 v306 v307 v308 v309 v310 v311 v312 v313 v314 v315 v316 v317 v318 v319 v320 v321 v322 v323 v324 v325 v326 v327 v328 v329 v330 v331 v332 v333 v334 v335 v336 v337 v338 v339 v340 v341 v342 v343 v344 v345 v346 v347 v348 v349 v350 v351 v352 v353 v354 v355 v356 v357 v358 v359 v360 v361 v362 v363 v364 v365 v366 v367 v368 v369 v370 v371 v372 v373 v374 v375 v376 v377 : Value) (J : Act → World → Prop) (Q : Exit → Act → World → Prop)
    (hJ : ∀ (a' : Act) (w' : World), (∃ u6 u16 u17 u18 u19 u20 u21 u22 u23 u24 u25 u26 u90 u91 u92 u93 u94 u95 u96 u97 u98 u99 u100 u102 u103 u104 u105 u106 u107 u108 u109 u110 u111 u112 u113 u114 u115 u116 u117 u118 u119 u120 u121 u122 u123 u124 u125 u126 u127 u128 u129 u130 u131 u132 u133 u134 u135 u136 u137 u138 u139 u140 u141 u142 u143 u144 u145 u146 u147 u148 u149 u150 u151 u152 u153 u154 u155 u156 u157 u158 u159 u160 u161 u162 u163 u164 u165 u166 u167 u168 u169 u170 u171 u172 u173 u174 u175 u176 u177 u178 u179 u180 u181 u182 u183 u184 u185 u186 u187 u188 u189 u190 u191 u192 u193 u194 u195 u196 u197 u198 u199 u200 u201 u202 u203 u204 u205 u206 u207 u208 u209 u210 u211 u212 u213 u214 u215 u216 u217 u218 u219 u220 u221 u222 u223 u224 u225 u226 u227 u228 u229 u230 u231 u232 u233 u234 u235 u236 u237 u238 u239 u240 u241 u242 u243 u244 u245 u246 u247 u248 u249 u250 u251 u252 u253 u254 u255 u256 u257 u258 u259 u260 u261 u262 u263 u264 u265 u266 u267 u268 u269 u270 u271 u272 u273 u274 u275 u276 u277 u278 u279 u280 u281 u282 u283 u284 u285 u286 u287 u288 u289 u290 u291 u292 u293 u294 u295 u296 u297 u298 u299 u300 u301 u302 u303 u304 u305 u306 u307 u308 u309 u310 u311 u312 u313 u314 u315 u316 u317 u318 u319 u320 u321 u322 u323 u324 u325 u326 u327 u328 u329 u330 u331 u332 u333 u334 u335 u336 u337 u338 u339 u340 u341 u342 u343 u344 u345 u346 u347 u348 u349 u350 u351 u352 u353 u354 u355 u356 u357 u358 u359 u360 u361 u362 u363 u364, Mid w b0 b1 cb tb ab vb b1 N L B m2 q K A Bb Cc V w' ∧ a' = { tmps := #[v0, v1, v2, v3, v4, v5, u6, v7, v8, .pointer (some ⟨tb, 0, none⟩), .pointer (some ⟨cb, 0, none⟩), v11, v12, .pointer (some ⟨vb, 0, none⟩), v14, .pointer (some ⟨q, 0, none⟩), u16, u17, u18, u19, u20, u21, u22, u23, u24, u25, u26, v27, v28, v29, v30, v31, v32, v33, v34, v35, v36, v37, v38, v39, v40, v41, v42, v43, v44, v45, v46, v47, v48, v49, v50, v51, v52, v53, v54, v55, v56, v57, v58, v59, v60, v61, v62, v63, v64, v65, v66, v67, v68, v69, v70, v71, v72, v73, v74, v75, v76, v77, v78, v79, v80, v81, v82, v83, v84, v85, v86, v87, v88, v89, u90, u91, u92, u93, u94, u95, u96, u97, u98, u99, u100, .int .i64 K, u102, u103, u104, u105, u106, u107, u108, u109, u110, u111, u112, u113, u114, u115, u116, u117, u118, u119, u120, u121, u122, u123, u124, u125, u126, u127, u128, u129, u130, u131, u132, u133, u134, u135, u136, u137, u138, u139, u140, u141, u142, u143, u144, u145, u146, u147, u148, u149, u150, u151, u152, u153, u154, u155, u156, u157, u158, u159, u160, u161, u162, u163, u164, u165, u166, u167, u168, u169, u170, u171, u172, u173, u174, u175, u176, u177, u178, u179, u180, u181, u182, u183, u184, u185, u186, u187, u188, u189, u190, u191, u192, u193, u194, u195, u196, u197, u198, u199, u200, u201, u202, u203, u204, u205, u206, u207, u208, u209, u210, u211, u212, u213, u214, u215, u216, u217, u218, u219, u220, u221, u222, u223, u224, u225, u226, u227, u228, u229, u230, u231, u232, u233, u234, u235, u236, u237, u238, u239, u240, u241, u242, u243, u244, u245, u246, u247, u248, u249, u250, u251, u252, u253, u254, u255, u256, u257, u258, u259, u260, u261, u262, u263, u264, u265, u266, u267, u268, u269, u270, u271, u272, u273, u274, u275, u276, u277, u278, u279, u280, u281, u282, u283, u284, u285, u286, u287, u288, u289, u290, u291, u292, u293, u294, u295, u296, u297, u298, u299, u300, u301, u302, u303, u304, u305, u306, u307, u308, u309, u310, u311, u312, u313, u314, u315, u316, u317, u318, u319, u320, u321, u322, u323, u324, u325, u326, u327, u328, u329, u330, u331, u332, u333, u334, u335, u336, u337, u338, u339, u340, u341, u342, u343, u344, u345, u346, u347, u348, u349, u350, u351, u352, u353, u354, u355, u356, u357, u358, u359, u360, u361, u362, u363, u364, v365, v366, v367, v368, v369, v370, v371, v372, v373, v374, v375, v376, v377], defers := [] }) → J a' w')
    (hR : ∀ (x0 x1 x2 x3 x4 x5 x7 x8 x9 x10 x11 x12 x13 x14 x15 x16 x17 x18 x19 x20 x21 x22 x23 x24 x25 x26 x27 x28 x29 x30 x31 x32 x33 x34 x35 x36 x37 x38 x39 x40 x41 x42 x43 x44 x45 x46 x47 x48 x49 x50 x51 x52 x53 x54 x55 x56 x57 x58 x59 x60 x61 x62 x63 x64 x65 x66 x67 x68 x69 x70 x71 x72 x73 x74 x75 x76 x77 x78 x79 x80 x81 x82 x83 x84 x85 x86 x87 x88 x89 x90 x91 x92 x93 x94 x95 x96 x97 x98 x99 x100 x101 x102 x103 x104 x105 x106 x107 x108 x109 x110 x111 x112 x113 x114 x115 x116 x117 x118 x119 x120 x121 x122 x123 x124 x125 x126 x127 x128 x129 x130 x131 x132 x133 x134 x135 x136 x137 x138 x139 x140 x141 x142 x143 x144 x145 x146 x147 x148 x149 x150 x151 x152 x153 x154 x155 x156 x157 x158 x159 x160 x161 x162 x163 x164 x165 x166 x167 x168 x169 x170 x171 x172 x173 x174 x175 x176 x177 x178 x179 x180 x181 x182 x183 x184 x185 x186 x187 x188 x189 x190 x191 x192 x193 x194 x195 x196 x197 x198 x199 x200 x201 x202 x203 x204 x205 x206 x207 x208 x209 x210 x211 x212 x213 x214 x215 x216 x217 x218 x219 x220 x221 x222 x223 x224 x225 x226 x227 x228 x229 x230 x231 x232 x233 x234 x235 x236 x237 x238 x239 x240 x241 x242 x243 x244 x245 x246 x247 x248 x249 x250 x251 x252 x253 x254 x255 x256 x257 x258 x259 x260 x261 x262 x263 x264 x265 x266 x267 x268 x269 x270 x271 x272 x273 x274 x275 x276 x277 x278 x279 x280 x281 x282 x283 x284 x285 x286 x287 x288 x289 x290 x291 x292 x293 x294 x295 x296 x297 x298 x299 x300 x301 x302 x303 x304 x305 x306 x307 x308 x309 x310 x311 x312 x313 x314 x315 x316 x317 x318 x319 x320 x321 x322 x323 x324 x325 x326 x327 x328 x329 x330 x331 x332 x333 x334 x335 x336 x337 x338 x339 x340 x341 x342 x343 x344 x345 x346 x347 x348 x349 x350 x351 x352 x353 x354 x355 x356 x357 x358 x359 x360 x361 x362 x363 x364 x365 x366 x367 x368 x369 x370 x371 x372 x373 x374 x375 x376 x377 : Value) (w' : World), Below w.heap.size w w' → Q .ret { tmps := #[x0, x1, x2, x3, x4, x5, .bool true, x7, x8, x9, x10, x11, x12, x13, x14, x15, x16, x17, x18, x19, x20, x21, x22, x23, x24, x25, x26, x27, x28, x29, x30, x31, x32, x33, x34, x35, x36, x37, x38, x39, x40, x41, x42, x43, x44, x45, x46, x47, x48, x49, x50, x51, x52, x53, x54, x55, x56, x57, x58, x59, x60, x61, x62, x63, x64, x65, x66, x67, x68, x69, x70, x71, x72, x73, x74, x75, x76, x77, x78, x79, x80, x81, x82, x83, x84, x85, x86, x87, x88, x89, x90, x91, x92, x93, x94, x95, x96, x97, x98, x99, x100, x101, x102, x103, x104, x105, x106, x107, x108, x109, x110, x111, x112, x113, x114, x115, x116, x117, x118, x119, x120, x121, x122, x123, x124, x125, x126, x127, x128, x129, x130, x131, x132, x133, x134, x135, x136, x137, x138, x139, x140, x141, x142, x143, x144, x145, x146, x147, x148, x149, x150, x151, x152, x153, x154, x155, x156, x157, x158, x159, x160, x161, x162, x163, x164, x165, x166, x167, x168, x169, x170, x171, x172, x173, x174, x175, x176, x177, x178, x179, x180, x181, x182, x183, x184, x185, x186, x187, x188, x189, x190, x191, x192, x193, x194, x195, x196, x197, x198, x199, x200, x201, x202, x203, x204, x205, x206, x207, x208, x209, x210, x211, x212, x213, x214, x215, x216, x217, x218, x219, x220, x221, x222, x223, x224, x225, x226, x227, x228, x229, x230, x231, x232, x233, x234, x235, x236, x237, x238, x239, x240, x241, x242, x243, x244, x245, x246, x247, x248, x249, x250, x251, x252, x253, x254, x255, x256, x257, x258, x259, x260, x261, x262, x263, x264, x265, x266, x267, x268, x269, x270, x271, x272, x273, x274, x275, x276, x277, x278, x279, x280, x281, x282, x283, x284, x285, x286, x287, x288, x289, x290, x291, x292, x293, x294, x295, x296, x297, x298, x299, x300, x301, x302, x303, x304, x305, x306, x307, x308, x309, x310, x311, x312, x313, x314, x315, x316, x317, x318, x319, x320, x321, x322, x323, x324, x325, x326, x327, x328, x329, x330, x331, x332, x333, x334, x335, x336, x337, x338, x339, x340, x341, x342, x343, x344, x345, x346, x347, x348, x349, x350, x351, x352, x353, x354, x355, x356, x357, x358, x359, x360, x361, x362, x363, x364, x365, x366, x367, x368, x369, x370, x371, x372, x373, x374, x375, x376, x377], defers := [] } w') :
    Code.wp Try.prog (pcs Try.f3 [1, 1, 1, 1, 1, 1, 1, 1, 1, 1, 1, 0, 1, 0, 0, 1, 0, 0, 1, 0, 1]) (Exit.then J Q) { tmps := #[v0, v1, v2, v3, v4, v5, v6, v7, v8, .pointer (some ⟨tb, 0, none⟩), .pointer (some ⟨cb, 0, none⟩), v11, v12, .pointer (some ⟨vb, 0, none⟩), v14, .pointer (some ⟨q, 0, none⟩), v16, v17, v18, v19, v20, v21, v22, v23, v24, v25, v26, v27, v28, v29, v30, v31, v32, v33, v34, v35, v36, v37, v38, v39, v40, v41, v42, v43, v44, v45, v46, v47, v48, v49, v50, v51, v52, v53, v54, v55, v56, v57, v58, v59, v60, v61, v62, v63, v64, v65, v66, v67, v68, v69, v70, v71, v72, v73, v74, v75, v76, v77, v78, v79, v80, v81, v82, v83, v84, v85, v86, v87, v88, v89, v90, v91, v92, v93, v94, v95, v96, v97, v98, v99, v100, .int .i64 K, v102, v103, v104, v105, v106, v107, v108, v109, v110, v111, v112, v113, v114, v115, v116, v117, v118, v119, v120, v121, v122, v123, v124, v125, v126, v127, v128, v129, v130, v131, v132, v133, v134, v135, v136, v137, v138, v139, v140, v141, v142, v143, v144, v145, v146, v147, v148, v149, v150, v151, v152, v153, v154, v155, v156, v157, v158, v159, v160, v161, v162, v163, v164, v165, v166, v167, v168, v169, v170, v171, v172, v173, v174, v175, v176, v177, v178, v179, v180, v181, v182, v183, v184, v185, v186, v187, v188, v189, v190, v191, v192, v193, v194, v195, v196, v197, v198, v199, v200, v201, v202, v203, v204, v205, v206, v207, v208, v209, v210, v211, v212, v213, v214, v215, v216, v217, v218, v219, v220, v221, v222, v223, v224, v225, v226, v227, v228, v229, v230, v231, v232, v233, v234, v235, v236, v237, v238, v239, v240, v241, v242, v243, v244, v245, v246, v247, v248, v249, v250, v251, v252, v253, v254, v255, v256, v257, v258, v259, v260, v261, v262, v263, v264, v265, v266, v267, v268, v269, v270, v271, v272, v273, v274, v275, v276, v277, v278, v279, v280, v281, v282, v283, v284, v285, v286, v287, v288, v289, v290, v291, v292, v293, v294, v295, v296, v297, v298, v299, v300, v301, v302, v303, v304, v305, v306, v307, v308, v309, v310, v311, v312, v313, v314, v315, v316, v317, v318, v319, v320, v321, v322, v323, v324, v325, v326, v327, v328, v329, v330, v331, v332, v333, v334, v335, v336, v337, v338, v339, v340, v341, v342, v343, v344, v345, v346, v347, v348, v349, v350, v351, v352, v353, v354, v355, v356, v357, v358, v359, v360, v361, v362, v363, v364, v365, v366, v367, v368, v369, v370, v371, v372, v373, v374, v375, v376, v377], defers := [] } u := by
  have x0 := H.out.x.cell 0
  have x1 := H.out.x.cell 1
  have x2 := H.out.x.cell 2
  have x3 := H.out.x.cell 3
  have x4 := H.out.x.cell 4
  have lx := H.out.x.lt
  have hrsN := I.out.fits
  have hlenI := Lib.hid I.out.len
  dsimp only
  conv => arg 2; whnf
  subst e2
  subst hpe0
  subst hjA
  have hpe : (p == p) = true := by simp
  clear x0 x1 x2 x3 x4 lx
  have hjL : (j : Int) < (hd.length : Int) := by have := hlenI.out; omega
  have hj0 : 0 ≤ (j : Int) := by omega
  have y0 := H.out.x.cell 0
  have y1 := H.out.x.cell 1
  have y2 := H.out.x.cell 2
  have y3 := H.out.x.cell 3
  have ly := H.out.x.lt
  obtain ⟨_, _, _, ky, lvy, _, _, cy, _, _, hAAy⟩ := H.out.r.cells
  obtain ⟨gy, rfl, dy⟩ := hAAy j p hp.out
  have lgy := World.block_lt_of_cell? _ _ dy
  clear hAAy
  go_wp2_with fail
  go_quiet (fail)
  have Ha := Lib.hid (H.out.grown (gb_drewN (gb_refl u none) nq))
  generalize u.drewN nq = ua at *
  clear H
  clear y0 y1 y2 y3 ly lvy cy dy lgy
  have y0 := Ha.out.x.cell 0
  have y1 := Ha.out.x.cell 1
  have y2 := Ha.out.x.cell 2
  have y3 := Ha.out.x.cell 3
  have ly := Ha.out.x.lt
  obtain ⟨_, _, _, ky, lvy, _, _, cy, _, _, hAAy⟩ := Ha.out.r.cells
  obtain ⟨gy, rfl, dy⟩ := hAAy j p hp.out
  have lgy := World.block_lt_of_cell? _ _ dy
  clear hAAy
  go_wp2_with fail
  go_quiet ((go_at_call 16; refine Calls.quiet_of_same ((ref_is_no b1 vb b1 N rs hd m2 st G _ (Ha.out.r.grown (by repeat first | exact gb_refl _ _ | refine gb_drew ?_ | refine gb_drewN ?_ _)) Cc 2 (by omega) hKC.out).mono fun _ _ h => ⟨h.1, h.2.symm⟩)))
  have Hb := Lib.hid (Ha.out.grown (gb_drewN (gb_refl ua none) nq))
  generalize ua.drewN nq = ub at *
  clear Ha
  clear y0 y1 y2 y3 ly lvy cy dy lgy
  go_wp2_with fail
  exact Hb.out.bel

set_option maxRecDepth 100000 in
set_option maxHeartbeats 8000000 in
theorem sw2ne (w : World) (b0 b1 cb tb ab vb L : Nat) (N : Int) (q : Nat) (K A Bb Cc V : Int) (u : World) (rs : List Rc) (hd : List Int) (m : Nat) (is : Int → Bool) (num : Int → Nat → Int) (B : Int) (F : Nat → Prop) (m2 : Nat) (st : Int → Option Int) (G : Nat → Prop)
    (H : Hid (Bt w b0 b1 cb tb ab vb b1 N q #[.int .i64 K, .int .i64 A, .int .i64 Bb, .int .i64 Cc, .int .i64 V] u rs hd m is num B F rs hd m2 st G)) (I : Hid (Inv N L rs hd m is num st)) (hA : Hid (0 ≤ B ∧ B ≤ 800000)) (hN1 : 1 ≤ N ∧ N ≤ 64) (hL : L ≤ 8) (hm2 : Hid (m2 ≤ 1000)) (hwA : Hid ((Lit.int .i64 A).wf = true)) (hwB : Hid ((Lit.int .i64 Bb).wf = true)) (hwC : Hid ((Lit.int .i64 Cc).wf = true)) (e2 : K = 2) (j : Nat) (p : Int) (hjA : A = (j : Int)) (hp : Hid (hd[j]? = some p)) (hjl : j < L) (hpe : (p == Bb) = false)
    (v0 v1 v2 v3 v4 v5 v6 v7 v8 v11 v12 v14 v16 v17 v18 v19 v20 v21 v22 v23 v24 v25 v26 v27 v28 v29 v30 v31 v32 v33 v34 v35 v36 v37 v38 v39 v40 v41 v42 v43 v44 v45 v46 v47 v48 v49 v50 v51 v52 v53 v54 v55 v56 v57 v58 v59 v60 v61 v62 v63 v64 v65 v66 v67 v68 v69 v70 v71 v72 v73 v74 v75 v76 v77 v78 v79 v80 v81 v82 v83 v84 v85 v86 v87 v88 v89 v90 v91 v92 v93 v94 v95 v96 v97 v98 v99 v100 v102 v103 v104 v105 v106 v107 v108 v109 v110 v111 v112 v113 v114 v115 v116 v117 v118 v119 v120 v121 v122 v123 v124 v125 v126 v127 v128 v129 v130 v131 v132 v133 v134 v135 v136 v137 v138 v139 v140 v141 v142 v143 v144 v145 v146 v147 v148 v149 v150 v151 v152 v153 v154 v155 v156 v157 v158 v159 v160 v161 v162 v163 v164 v165 v166 v167 v168 v169 v170 v171 v172 v173 v174 v175 v176 v177 v178 v179 v180 v181 v182 v183 v184 v185 v186 v187 v188 v189 v190 v191 v192 v193 v194 v195 v196 v197 v198 v199 v200 v201 v202 v203 v204 v205 v206 v207 v208 v209 v210 v211 v212 v213 v214 v215 v216 v217 v218 v219 v220 v221 v222 v223 v224 v225 v226 v227 v228 v229 v230 v231 v232 v233 v234 v235 v236 v237 v238 v239 v240 v241 v242 v243 v244 v245 v246 v247 v248 v249 v250 v251 v252 v253 v254 v255 v256 v257 v258 v259 v260 v261 v262 v263 v264 v265 v266 v267 v268 v269 v270 v271 v272 v273 v274 v275 v276 v277 v278 v279 v280 v281 v282 v283 v284 v285 v286 v287 v288 v289 v290 v291 v292 v293 v294 v295 v296 v297 v298 v299 v300 v301 v302 v303 v304 v305 v306 v307 v308 v309 v310 v311 v312 v313 v314 v315 v316 v317 v318 v319 v320 v321 v322 v323 v324 v325 v326 v327 v328 v329 v330 v331 v332 v333 v334 v335 v336 v337 v338 v339 v340 v341 v342 v343 v344 v345 v346 v347 v348 v349 v350 v351 v352 v353 v354 v355 v356 v357 v358 v359 v360 v361 v362 v363 v364 v365 v366 v367 v368 v369 v370 v371 v372 v373 v374 v375 v376 v377 : Value) (J : Act → World → Prop) (Q : Exit → Act → World → Prop)
    (hJ : ∀ (a' : Act) (w' : World), (∃ u6 u16 u17 u18 u19 u20 u21 u22 u23 u24 u25 u26 u90 u91 u92 u93 u94 u95 u96 u97 u98 u99 u100 u102 u103 u104 u105 u106 u107 u108 u109 u110 u111 u112 u113 u114 u115 u116 u117 u118 u119 u120 u121 u122 u123 u124 u125 u126 u127 u128 u129 u130 u131 u132 u133 u134 u135 u136 u137 u138 u139 u140 u141 u142 u143 u144 u145 u146 u147 u148 u149 u150 u151 u152 u153 u154 u155 u156 u157 u158 u159 u160 u161 u162 u163 u164 u165 u166 u167 u168 u169 u170 u171 u172 u173 u174 u175 u176 u177 u178 u179 u180 u181 u182 u183 u184 u185 u186 u187 u188 u189 u190 u191 u192 u193 u194 u195 u196 u197 u198 u199 u200 u201 u202 u203 u204 u205 u206 u207 u208 u209 u210 u211 u212 u213 u214 u215 u216 u217 u218 u219 u220 u221 u222 u223 u224 u225 u226 u227 u228 u229 u230 u231 u232 u233 u234 u235 u236 u237 u238 u239 u240 u241 u242 u243 u244 u245 u246 u247 u248 u249 u250 u251 u252 u253 u254 u255 u256 u257 u258 u259 u260 u261 u262 u263 u264 u265 u266 u267 u268 u269 u270 u271 u272 u273 u274 u275 u276 u277 u278 u279 u280 u281 u282 u283 u284 u285 u286 u287 u288 u289 u290 u291 u292 u293 u294 u295 u296 u297 u298 u299 u300 u301 u302 u303 u304 u305 u306 u307 u308 u309 u310 u311 u312 u313 u314 u315 u316 u317 u318 u319 u320 u321 u322 u323 u324 u325 u326 u327 u328 u329 u330 u331 u332 u333 u334 u335 u336 u337 u338 u339 u340 u341 u342 u343 u344 u345 u346 u347 u348 u349 u350 u351 u352 u353 u354 u355 u356 u357 u358 u359 u360 u361 u362 u363 u364, Mid w b0 b1 cb tb ab vb b1 N L B m2 q K A Bb Cc V w' ∧ a' = { tmps := #[v0, v1, v2, v3, v4, v5, u6, v7, v8, .pointer (some ⟨tb, 0, none⟩), .pointer (some ⟨cb, 0, none⟩), v11, v12, .pointer (some ⟨vb, 0, none⟩), v14, .pointer (some ⟨q, 0, none⟩), u16, u17, u18, u19, u20, u21, u22, u23, u24, u25, u26, v27, v28, v29, v30, v31, v32, v33, v34, v35, v36, v37, v38, v39, v40, v41, v42, v43, v44, v45, v46, v47, v48, v49, v50, v51, v52, v53, v54, v55, v56, v57, v58, v59, v60, v61, v62, v63, v64, v65, v66, v67, v68, v69, v70, v71, v72, v73, v74, v75, v76, v77, v78, v79, v80, v81, v82, v83, v84, v85, v86, v87, v88, v89, u90, u91, u92, u93, u94, u95, u96, u97, u98, u99, u100, .int .i64 K, u102, u103, u104, u105, u106, u107, u108, u109, u110, u111, u112, u113, u114, u115, u116, u117, u118, u119, u120, u121, u122, u123, u124, u125, u126, u127, u128, u129, u130, u131, u132, u133, u134, u135, u136, u137, u138, u139, u140, u141, u142, u143, u144, u145, u146, u147, u148, u149, u150, u151, u152, u153, u154, u155, u156, u157, u158, u159, u160, u161, u162, u163, u164, u165, u166, u167, u168, u169, u170, u171, u172, u173, u174, u175, u176, u177, u178, u179, u180, u181, u182, u183, u184, u185, u186, u187, u188, u189, u190, u191, u192, u193, u194, u195, u196, u197, u198, u199, u200, u201, u202, u203, u204, u205, u206, u207, u208, u209, u210, u211, u212, u213, u214, u215, u216, u217, u218, u219, u220, u221, u222, u223, u224, u225, u226, u227, u228, u229, u230, u231, u232, u233, u234, u235, u236, u237, u238, u239, u240, u241, u242, u243, u244, u245, u246, u247, u248, u249, u250, u251, u252, u253, u254, u255, u256, u257, u258, u259, u260, u261, u262, u263, u264, u265, u266, u267, u268, u269, u270, u271, u272, u273, u274, u275, u276, u277, u278, u279, u280, u281, u282, u283, u284, u285, u286, u287, u288, u289, u290, u291, u292, u293, u294, u295, u296, u297, u298, u299, u300, u301, u302, u303, u304, u305, u306, u307, u308, u309, u310, u311, u312, u313, u314, u315, u316, u317, u318, u319, u320, u321, u322, u323, u324, u325, u326, u327, u328, u329, u330, u331, u332, u333, u334, u335, u336, u337, u338, u339, u340, u341, u342, u343, u344, u345, u346, u347, u348, u349, u350, u351, u352, u353, u354, u355, u356, u357, u358, u359, u360, u361, u362, u363, u364, v365, v366, v367, v368, v369, v370, v371, v372, v373, v374, v375, v376, v377], defers := [] }) → J a' w') :
    Code.wp Try.prog (pcs Try.f3 [1, 1, 1, 1, 1, 1, 1, 1, 1, 1, 1, 0, 1, 0, 0, 1, 0, 0, 1, 0, 1]) (Exit.then J Q) { tmps := #[v0, v1, v2, v3, v4, v5, v6, v7, v8, .pointer (some ⟨tb, 0, none⟩), .pointer (some ⟨cb, 0, none⟩), v11, v12, .pointer (some ⟨vb, 0, none⟩), v14, .pointer (some ⟨q, 0, none⟩), v16, v17, v18, v19, v20, v21, v22, v23, v24, v25, v26, v27, v28, v29, v30, v31, v32, v33, v34, v35, v36, v37, v38, v39, v40, v41, v42, v43, v44, v45, v46, v47, v48, v49, v50, v51, v52, v53, v54, v55, v56, v57, v58, v59, v60, v61, v62, v63, v64, v65, v66, v67, v68, v69, v70, v71, v72, v73, v74, v75, v76, v77, v78, v79, v80, v81, v82, v83, v84, v85, v86, v87, v88, v89, v90, v91, v92, v93, v94, v95, v96, v97, v98, v99, v100, .int .i64 K, v102, v103, v104, v105, v106, v107, v108, v109, v110, v111, v112, v113, v114, v115, v116, v117, v118, v119, v120, v121, v122, v123, v124, v125, v126, v127, v128, v129, v130, v131, v132, v133, v134, v135, v136, v137, v138, v139, v140, v141, v142, v143, v144, v145, v146, v147, v148, v149, v150, v151, v152, v153, v154, v155, v156, v157, v158, v159, v160, v161, v162, v163, v164, v165, v166, v167, v168, v169, v170, v171, v172, v173, v174, v175, v176, v177, v178, v179, v180, v181, v182, v183, v184, v185, v186, v187, v188, v189, v190, v191, v192, v193, v194, v195, v196, v197, v198, v199, v200, v201, v202, v203, v204, v205, v206, v207, v208, v209, v210, v211, v212, v213, v214, v215, v216, v217, v218, v219, v220, v221, v222, v223, v224, v225, v226, v227, v228, v229, v230, v231, v232, v233, v234, v235, v236, v237, v238, v239, v240, v241, v242, v243, v244, v245, v246, v247, v248, v249, v250, v251, v252, v253, v254, v255, v256, v257, v258, v259, v260, v261, v262, v263, v264, v265, v266, v267, v268, v269, v270, v271, v272, v273, v274, v275, v276, v277, v278, v279, v280, v281, v282, v283, v284, v285, v286, v287, v288, v289, v290, v291, v292, v293, v294, v295, v296, v297, v298, v299, v300, v301, v302, v303, v304, v305, v306, v307, v308, v309, v310, v311, v312, v313, v314, v315, v316, v317, v318, v319, v320, v321, v322, v323, v324, v325, v326, v327, v328, v329, v330, v331, v332, v333, v334, v335, v336, v337, v338, v339, v340, v341, v342, v343, v344, v345, v346, v347, v348, v349, v350, v351, v352, v353, v354, v355, v356, v357, v358, v359, v360, v361, v362, v363, v364, v365, v366, v367, v368, v369, v370, v371, v372, v373, v374, v375, v376, v377], defers := [] } u := by
  have x0 := H.out.x.cell 0
  have x1 := H.out.x.cell 1
  have x2 := H.out.x.cell 2
  have x3 := H.out.x.cell 3
  have x4 := H.out.x.cell 4
  have lx := H.out.x.lt
  have hrsN := I.out.fits
  have hlenI := Lib.hid I.out.len
  dsimp only
  conv => arg 2; whnf
  subst e2
  subst hjA
  clear x0 x1 x2 x3 x4 lx
  have hjL : (j : Int) < (hd.length : Int) := by have := hlenI.out; omega
  have hj0 : 0 ≤ (j : Int) := by omega
  have y0 := H.out.x.cell 0
  have y1 := H.out.x.cell 1
  have y2 := H.out.x.cell 2
  have y3 := H.out.x.cell 3
  have ly := H.out.x.lt
  obtain ⟨_, _, _, ky, lvy, _, _, cy, _, _, hAAy⟩ := H.out.r.cells
  obtain ⟨gy, rfl, dy⟩ := hAAy j p hp.out
  have lgy := World.block_lt_of_cell? _ _ dy
  clear hAAy
  go_wp2_with fail
  go_quiet (fail)
  have Ha := Lib.hid (H.out.grown (gb_drewN (gb_refl u none) nq))
  generalize u.drewN nq = ua at *
  clear H
  clear y0 y1 y2 y3 ly lvy cy dy lgy
  have y0 := Ha.out.x.cell 0
  have y1 := Ha.out.x.cell 1
  have y2 := Ha.out.x.cell 2
  have y3 := Ha.out.x.cell 3
  have ly := Ha.out.x.lt
  obtain ⟨_, _, _, ky, lvy, _, _, cy, _, _, hAAy⟩ := Ha.out.r.cells
  obtain ⟨gy, rfl, dy⟩ := hAAy j p hp.out
  have lgy := World.block_lt_of_cell? _ _ dy
  clear hAAy
  go_wp2_with fail
  go_quiet (fail)
  have Hb := Lib.hid (Ha.out.grown (gb_drewN (gb_refl ua none) nq))
  generalize ua.drewN nq = ub at *
  clear Ha
  clear y0 y1 y2 y3 ly lvy cy dy lgy
  have y0 := Hb.out.x.cell 0
  have y1 := Hb.out.x.cell 1
  have y2 := Hb.out.x.cell 2
  have y3 := Hb.out.x.cell 3
  have ly := Hb.out.x.lt
  obtain ⟨_, _, _, ky, lvy, _, _, cy, _, _, hAAy⟩ := Hb.out.r.cells
  obtain ⟨gy, rfl, dy⟩ := hAAy j p hp.out
  have lgy := World.block_lt_of_cell? _ _ dy
  clear hAAy
  have hsw := cells_swap b0 cb tb ab m N rs hd is num B F _ (Hb.out.c.grown (gb_drew (gb_refl ub none))) (by have := hA.out; omega) (by omega) j p Bb Cc hp.out
  rw [show (p == Bb) = false from hpe] at hsw
  simp only [Bool.false_eq_true, if_false] at hsw
  go_wp2_with fail
  go_region_held3 (fun w' => w'.cell? ⟨q, 1, none⟩ = some (.int .i64 j) ∧ w'.cell? ⟨q, 3, none⟩ = some (.int .i64 Cc) ∧ w'.cell? ⟨vb, 2, none⟩ = some (.slice (some ⟨gy, 0, none⟩) hd.length ky) ∧ w'.cell? ⟨gy, j, none⟩ = some (.int .i64 p)) (go_keep) ((go_at_call 17; refine hsw.mono ?_; rintro e t1 ⟨rfl, C1, S1⟩; dsimp only; have Hc := Lib.hid ((Hb.out.grown (gb_drew (gb_refl ub none))).cel C1.out S1.out); have z1 := Hc.out.x.cell 1; have z3 := Hc.out.x.cell 3; have zc := (World.cell?_of_block (a := ⟨vb, 2, none⟩) (S1.out.only.block vb lvy (fun e => Hb.out.s _ e (ref_in_vb Hb.out.r)))).trans cy; have zd := (World.cell?_of_block (a := ⟨gy, j, none⟩) (S1.out.only.block gy lgy (fun e => Hb.out.s _ e (ref_in_at Hb.out.r cy)))).trans dy))
  clear C1 S1 Hb z1 z3 zc zd hsw
  clear y0 y1 y2 y3 ly lvy cy dy lgy
  have y0 := Hc.out.x.cell 0
  have y1 := Hc.out.x.cell 1
  have y2 := Hc.out.x.cell 2
  have y3 := Hc.out.x.cell 3
  have ly := Hc.out.x.lt
  obtain ⟨_, _, _, ky, lvy, _, _, cy, _, _, hAAy⟩ := Hc.out.r.cells
  obtain ⟨gy, rfl, dy⟩ := hAAy j p hp.out
  have lgy := World.block_lt_of_cell? _ _ dy
  clear hAAy
  go_wp2_with fail
  go_quiet (fail)
  have Hd := Lib.hid (Hc.out.grown (gb_drewN (gb_refl t1 none) nq))
  generalize t1.drewN nq = ud at *
  clear Hc
  clear y0 y1 y2 y3 ly lvy cy dy lgy
  go_wp2_with fail
  first | exact ⟨_, _, _, _, _, _, _, _, _, _, _, _, _, _, _, _, _, _, _, _, _, _, _, _, _, _, _, _, _, _, _, _, _, _, _, _, _, _, _, _, _, _, _, _, _, _, _, _, _, _, _, _, _, _, _, _, _, _, _, _, _, _, _, _, _, _, _, _, _, _, _, _, _, _, _, _, _, _, _, _, _, _, _, _, _, _, _, _, _, _, _, _, _, _, _, _, _, _, _, _, _, _, _, _, _, _, _, _, _, _, _, _, _, _, _, _, _, _, _, _, _, _, _, _, _, _, _, _, _, _, _, _, _, _, _, _, _, _, _, _, _, _, _, _, _, _, _, _, _, _, _, _, _, _, _, _, _, _, _, _, _, _, _, _, _, _, _, _, _, _, _, _, _, _, _, _, _, _, _, _, _, _, _, _, _, _, _, _, _, _, _, _, _, _, _, _, _, _, _, _, _, _, _, _, _, _, _, _, _, _, _, _, _, _, _, _, _, _, _, _, _, _, _, _, _, _, _, _, _, _, _, _, _, _, _, _, _, _, _, _, _, _, _, _, _, _, _, _, _, _, _, _, _, _, _, _, _, _, _, _, _, _, _, _, _, _, _, _, _, _, _, _, _, _, _, _, _, _, _, _, _, _, _, _, _, _, mid_of Hd.out (I.out) ⟨by omega, by omega⟩ (by omega), rfl⟩ | exact mid_of Hd.out (I.out) ⟨by omega, by omega⟩ (by omega)


end Go.Proofs.Yticlmcoegcfanaa.acts
