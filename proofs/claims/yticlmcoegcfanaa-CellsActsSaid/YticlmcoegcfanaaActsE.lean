/- CellsActs: its loop's end. A theorem of its own over that piece of the code. -/
import Derived.Test.YticlmcoegcfanaaActsR
import Derived.Test.YticlmcoegcfanaaActsC
import Derived.Test.YticlmcoegcfanaaPiece
namespace Go.Proofs.Yticlmcoegcfanaa.acts
open Go Go.RowKit Go.Proofs.Yticlmcoegcfanaa.base Go.Proofs.Yticlmcoegcfanaa.ar Go.Proofs.Yticlmcoegcfanaa.ds Go.Proofs.Yticlmcoegcfanaa.rf Go.Proofs.Yticlmcoegcfanaa.mm Go.Proofs.Yticlmcoegcfanaa.vl Go.Proofs.Yticlmcoegcfanaa.ce
set_option linter.unusedVariables false

set_option maxRecDepth 100000 in
set_option maxHeartbeats 8000000 in
theorem exit60 (w : World) (b0 b1 cb tb ab vb L : Nat) (N : Int) (B : Int) (u : World) (rs : List Rc) (hd : List Int) (m : Nat) (is : Int → Bool) (num : Int → Nat → Int) (F : Nat → Prop) (m2 : Nat) (st : Int → Option Int) (G : Nat → Prop)
    (C : Hid (Cel b0 u cb tb ab N rs hd m is num B F)) (R : Hid (RefC b1 u vb b1 N rs hd m2 st G)) (SP : Hid (Sep F G)) (I : Hid (Inv N L rs hd m is num st)) (BB : Hid (Below w.heap.size w u)) (hA : Hid (0 ≤ B ∧ B ≤ 800000)) (hN1 : 1 ≤ N ∧ N ≤ 64) (hL : L ≤ 8) (hL1 : 1 ≤ L) (hb0 : Hid (w.heap.size ≤ b0))
    (a1 : Option Addr) (cap1 : Nat) (v0 v2 v3 v4 v5 v6 v7 v8 v11 v12 v14 v15 v16 v17 v18 v19 v20 v21 v22 v23 v24 v25 v26 v27 v28 v29 v30 v31 v32 v33 v34 v35 v36 v37 v38 v39 v40 v41 v42 v43 v44 v45 v46 v47 v48 v49 v50 v51 v52 v53 v54 v55 v56 v57 v58 v59 v60 v61 v62 v63 v64 v65 v66 v67 v68 v69 v70 v71 v72 v73 v74 v75 v76 v77 v78 v79 v80 v81 v82 v83 v84 v85 v86 v87 v88 v89 v90 v91 v92 v93 v94 v95 v96 v97 v98 v99 v100 v101 v102 v103 v104 v105 v106 v107 v108 v109 v110 v111 v112 v113 v114 v115 v116 v117 v118 v119 v120 v121 v122 v123 v124 v125 v126 v127 v128 v129 v130 v131 v132 v133 v134 v135 v136 v137 v138 v139 v140 v141 v142 v143 v144 v145 v146 v147 v148 v149 v150 v151 v152 v153 v154 v155 v156 v157 v158 v159 v160 v161 v162 v163 v164 v165 v166 v167 v168 v169 v170 v171 v172 v173 v174 v175 v176 v177 v178 v179 v180 v181 v182 v183 v184 v185 v186 v187 v188 v189 v190 v191 v192 v193 v194 v195 v196 v197 v198 v199 v200 v201 v202 v203 v204 v205 v206 v207 v208 v209 v210 v211 v212 v213 v214 v215 v216 v217 v218 v219 v220 v221 v222 v223 v224 v225 v226 v227 v228 v229 v230 v231 v232 v233 v234 v235 v236 v237 v238 v239 v240 v241 v242 v243 v244 v245 v246 v247 v248 v249 v250 v251 v252 v253 v254 v255 v256 v257 v258 v259 v260 v261 v262 v263 v264 v265 v266 v267 v268 v269 v270 v271 v272 v273 v274 v275 v276 v277 v278 v279 v280 v281 v282 v283 v284 v285 v286 v287 v288 v289 v290 v291 v292 v293 v294 v295 v296 v297 v298 v299 v300 v301 v302 v303 v304 v305 v306 v307 v308 v309 v310 v311 v312 v313 v314 v315 v316 v317 v318 v319 v320 v321 v322 v323 v324 v325 v326 v327 v328 v329 v330 v331 v332 v333 v334 v335 v336 v337 v338 v339 v340 v341 v342 v343 v344 v345 v346 v347 v348 v349 v350 v351 v352 v353 v354 v355 v356 v357 v358 v359 v360 v361 v362 v363 v364 v365 v366 v367 v368 v369 v370 v371 v372 v373 v374 v375 v376 v377 : Value) (J : Act → World → Prop) (Q : Exit → Act → World → Prop)
    (hJ : ∀ (a' : Act) (w' : World), (∃ u365 u366 u367 u368 u369 u370 u371 u372 u373 u374 u375 u376 u377, Below w.heap.size w w' ∧ a' = { tmps := #[v0, .slice a1 L cap1, v2, v3, v4, v5, .bool true, v7, v8, .pointer (some ⟨tb, 0, none⟩), .pointer (some ⟨cb, 0, none⟩), v11, v12, .pointer (some ⟨vb, 0, none⟩), v14, v15, v16, v17, v18, v19, v20, v21, v22, v23, v24, v25, v26, v27, v28, v29, v30, v31, v32, v33, v34, v35, v36, v37, v38, v39, v40, v41, v42, v43, v44, v45, v46, v47, v48, v49, v50, v51, v52, v53, v54, v55, v56, v57, v58, v59, v60, v61, v62, v63, v64, v65, v66, v67, v68, v69, v70, v71, v72, v73, v74, v75, v76, v77, v78, v79, v80, v81, v82, v83, v84, v85, v86, v87, v88, v89, v90, v91, v92, v93, v94, v95, v96, v97, v98, v99, v100, v101, v102, v103, v104, v105, v106, v107, v108, v109, v110, v111, v112, v113, v114, v115, v116, v117, v118, v119, v120, v121, v122, v123, v124, v125, v126, v127, v128, v129, v130, v131, v132, v133, v134, v135, v136, v137, v138, v139, v140, v141, v142, v143, v144, v145, v146, v147, v148, v149, v150, v151, v152, v153, v154, v155, v156, v157, v158, v159, v160, v161, v162, v163, v164, v165, v166, v167, v168, v169, v170, v171, v172, v173, v174, v175, v176, v177, v178, v179, v180, v181, v182, v183, v184, v185, v186, v187, v188, v189, v190, v191, v192, v193, v194, v195, v196, v197, v198, v199, v200, v201, v202, v203, v204, v205, v206, v207, v208, v209, v210, v211, v212, v213, v214, v215, v216, v217, v218, v219, v220, v221, v222, v223, v224, v225, v226, v227, v228, v229, v230, v231, v232, v233, v234, v235, v236, v237, v238, v239, v240, v241, v242, v243, v244, v245, v246, v247, v248, v249, v250, v251, v252, v253, v254, v255, v256, v257, v258, v259, v260, v261, v262, v263, v264, v265, v266, v267, v268, v269, v270, v271, v272, v273, v274, v275, v276, v277, v278, v279, v280, v281, v282, v283, v284, v285, v286, v287, v288, v289, v290, v291, v292, v293, v294, v295, v296, v297, v298, v299, v300, v301, v302, v303, v304, v305, v306, v307, v308, v309, v310, v311, v312, v313, v314, v315, v316, v317, v318, v319, v320, v321, v322, v323, v324, v325, v326, v327, v328, v329, v330, v331, v332, v333, v334, v335, v336, v337, v338, v339, v340, v341, v342, v343, v344, v345, v346, v347, v348, v349, v350, v351, v352, v353, v354, v355, v356, v357, v358, v359, v360, v361, v362, v363, v364, u365, u366, u367, u368, u369, u370, u371, u372, u373, u374, u375, u376, u377], defers := [] }) → J a' w') :
    Code.wp Try.prog (pcs Try.f3 [1, 1, 1, 1, 1, 1, 1, 1, 1, 1, 1, 1, 0]) (Exit.then J Q) { tmps := #[v0, .slice a1 L cap1, v2, v3, v4, v5, v6, v7, v8, .pointer (some ⟨tb, 0, none⟩), .pointer (some ⟨cb, 0, none⟩), v11, v12, .pointer (some ⟨vb, 0, none⟩), v14, v15, v16, v17, v18, v19, v20, v21, v22, v23, v24, v25, v26, v27, v28, v29, v30, v31, v32, v33, v34, v35, v36, v37, v38, v39, v40, v41, v42, v43, v44, v45, v46, v47, v48, v49, v50, v51, v52, v53, v54, v55, v56, v57, v58, v59, v60, v61, v62, v63, v64, v65, v66, v67, v68, v69, v70, v71, v72, v73, v74, v75, v76, v77, v78, v79, v80, v81, v82, v83, v84, v85, v86, v87, v88, v89, v90, v91, v92, v93, v94, v95, v96, v97, v98, v99, v100, v101, v102, v103, v104, v105, v106, v107, v108, v109, v110, v111, v112, v113, v114, v115, v116, v117, v118, v119, v120, v121, v122, v123, v124, v125, v126, v127, v128, v129, v130, v131, v132, v133, v134, v135, v136, v137, v138, v139, v140, v141, v142, v143, v144, v145, v146, v147, v148, v149, v150, v151, v152, v153, v154, v155, v156, v157, v158, v159, v160, v161, v162, v163, v164, v165, v166, v167, v168, v169, v170, v171, v172, v173, v174, v175, v176, v177, v178, v179, v180, v181, v182, v183, v184, v185, v186, v187, v188, v189, v190, v191, v192, v193, v194, v195, v196, v197, v198, v199, v200, v201, v202, v203, v204, v205, v206, v207, v208, v209, v210, v211, v212, v213, v214, v215, v216, v217, v218, v219, v220, v221, v222, v223, v224, v225, v226, v227, v228, v229, v230, v231, v232, v233, v234, v235, v236, v237, v238, v239, v240, v241, v242, v243, v244, v245, v246, v247, v248, v249, v250, v251, v252, v253, v254, v255, v256, v257, v258, v259, v260, v261, v262, v263, v264, v265, v266, v267, v268, v269, v270, v271, v272, v273, v274, v275, v276, v277, v278, v279, v280, v281, v282, v283, v284, v285, v286, v287, v288, v289, v290, v291, v292, v293, v294, v295, v296, v297, v298, v299, v300, v301, v302, v303, v304, v305, v306, v307, v308, v309, v310, v311, v312, v313, v314, v315, v316, v317, v318, v319, v320, v321, v322, v323, v324, v325, v326, v327, v328, v329, v330, v331, v332, v333, v334, v335, v336, v337, v338, v339, v340, v341, v342, v343, v344, v345, v346, v347, v348, v349, v350, v351, v352, v353, v354, v355, v356, v357, v358, v359, v360, v361, v362, v363, v364, v365, v366, v367, v368, v369, v370, v371, v372, v373, v374, v375, v376, v377], defers := [] } u := by
  obtain ⟨l, hll0, hv0, hval0⟩ := I.out.vals
  have hll := Lib.hid hll0
  have hv := Lib.hid hv0
  have hval := Lib.hid hval0
  have hIlen := Lib.hid I.out.len
  have hIfit := Lib.hid I.out.fits
  have e9 : hd.length = L := hIlen.out
  clear hll0 hv0 hval0
  dsimp only
  conv => arg 2; whnf
  go_wp2_with fail
  refine (cells_objects b0 cb tb ab m N rs hd is num B F u C.out (by have := hA.out; omega) (by omega)).mono ?_
  rw [e9]
  rintro e t0 ⟨rfl, C1, S1⟩
  dsimp only
  have R1 := Lib.hid (R.out.only S1.out.only SP.out.symm)
  have B1 := Lib.hid (C.out.low S1.out BB.out hb0.out)
  clear C R BB S1
  go_wp2_with fail
  refine (cells_all b0 cb tb ab m N rs hd is num _ F t0 C1.out (by have := hA.out; omega) (by omega) l L hIlen.out hll.out (by omega) hval.out).mono ?_
  rintro e t1 ⟨a9, c9, rfl, D1, _, C2, S2⟩
  dsimp only
  have R2 := Lib.hid (R1.out.only S2.out.only SP.out.symm)
  have B2 := Lib.hid (C1.out.low S2.out B1.out hb0.out)
  clear C1 R1 B1 S2
  go_wp2_with fail
  refine (ref_all b1 vb b1 N rs hd m2 st G t1 R2.out l hv.out (by have := hIfit.out; omega) (by have := hIlen.out; omega)).mono ?_
  rintro e t2 ⟨v999, rfl, O2, g2⟩
  obtain ⟨a8, c8, rfl⟩ := shape_of O2.out
  dsimp only
  have B3 := Lib.hid (bl_none B2.out g2.out)
  have D2 := Lib.hid (D1.out.grown g2.out (by simp))
  have D3 : Hid (Rd t2 a8 l) := by
    have h1 := hll.out
    have h2 := hIlen.out
    have h3 := O2.out
    rw [h2, ← h1] at h3
    exact Rd.of_own h3
  rw [e9]
  clear C2 R2 B2 D1 O2 g2 e9
  go_wp2_with fail
  refine (vals_true a9 a8 l L hll.out c9 c8 t2 D2.out D3.out (by have := hll.out; omega)).mono ?_
  rintro e t3 ⟨n3, rfl, rfl⟩
  dsimp only
  have B4 := Lib.hid (bl_drewN B3.out n3)
  go_wp2_with fail
  first | exact ⟨_, _, _, _, _, _, _, _, _, _, _, _, _,  B4.out, rfl⟩ | exact B4.out

end Go.Proofs.Yticlmcoegcfanaa.acts
