/- The document's Tries: loop 4: what is released. A theorem of its own over that piece of the code. -/
import Derived.Test.YtgnakcahmmdncaaHx
import Derived.Test.YtgnakcahmmdncaaPiece
import Derived.Deep.RegionHeld3
import Derived.Deep.CutRange
import Derived.BigRegion
import Derived.BigQuiet
import Derived.Deep.QuietTactic
namespace Go.Proofs.Ytgnakcahmmdncaa.hs
open Go Go.RowKit Go.Proofs.Ytgnakcahmmdncaa.base Go.Maps
set_option linter.unusedVariables false
set_option maxRecDepth 100000

set_option maxHeartbeats 4000000 in
theorem piece4 (w : World) (u0 : World) (bt be : Nat) (T : Tr) (y : Ev) (va : Option Addr) (vc : Nat) (L2 : Blks) (hac : T.ac.length ≤ 10000) (HRA : Hid (Row accC 6 59 T.ac (.slice va T.ac.length vc) L2)) (HO : Hid (base.Own u0 w ((be, 36, [.int .i64 ((y).k), .int .i64 ((y).th), .int .i64 ((y).tx), .int .i64 ((y).at_), .int .i64 ((y).ob), .int .i64 ((y).va), .int .i64 ((y).re)]) :: (bt, 32, trC T (.slice va T.ac.length vc)) :: L2))) {v0 v1 v2 v3 v4 v6 v8 v9 v11 v12 v13 v14 v15 v16 v17 v18 v19 v20 v21 v22 v23 v24 v25 v26 v27 v28 v29 v30 v31 v32 v33 v34 v35 v36 v37 v38 v39 v40 v41 v42 v43 v44 v45 v46 v47 v48 v49 v50 v51 v52 v53 v54 v55 v56 v57 v58 v59 v60 v61 v62 v63 v64 v65 v66 v67 v68 v69 v70 v71 v72 v73 v74 v75 v76 v77 v78 v79 v80 v81 v82 v83 v84 v85 v86 v87 v88 v89 v90 v91 v92 v93 v94 v95 v96 v97 v98 v99 v100 v101 v102 v103 v104 v105 v106 v107 v108 v109 v110 v111 v112 v113 v114 v115 v116 v117 v118 v119 v120 v121 v122 v123 v124 v125 v126 v127 v128 v129 v130 v131 v132 v133 v134 v135 v136 v137 v138 v139 v140 v141 v142 v143 v144 v145 v146 v147 v148 v149 v150 v151 v152 v153 v154 v155 v156 v157 v158 v159 v160 v161 v162 v163 v164 v165 v166 v167 v168 v169 v170 v171 : Value} {Q : Exit → Act → World → Prop}
    (hJ : ∀ (u10 u125 u126 u127 u128 u129 u130 u131 u132 u133 u134 u135 u136 u137 u138 u139 u140 u141 u142 u143 u144 u145 u146 u147 u148 u149 u150 u151 u152 u153 u154 : Value) (L4 : Blks) (w' : World), Hid (Row accC 6 59 (relAll T.ac y.ob) (.slice va T.ac.length vc) L4) → Hid (base.Own u0 w' ((be, 36, [.int .i64 ((y).k), .int .i64 ((y).th), .int .i64 ((y).tx), .int .i64 ((y).at_), .int .i64 ((y).ob), .int .i64 ((y).va), .int .i64 ((y).re)]) :: (bt, 32, trC T (.slice va T.ac.length vc)) :: L4)) → Q Exit.normal { tmps := #[v0, v1, v2, v3, v4, .pointer (some ⟨bt, 0, none⟩), v6, .pointer (some ⟨be, 0, none⟩), v8, v9, u10, v11, v12, v13, v14, v15, v16, v17, v18, v19, v20, v21, v22, v23, v24, v25, v26, v27, v28, v29, v30, v31, v32, v33, v34, v35, v36, v37, v38, v39, v40, v41, v42, v43, v44, v45, v46, v47, v48, v49, v50, v51, v52, v53, v54, v55, v56, v57, v58, v59, v60, v61, v62, v63, v64, v65, v66, v67, v68, v69, v70, v71, v72, v73, v74, v75, v76, v77, v78, v79, v80, v81, v82, v83, v84, v85, v86, v87, v88, v89, v90, v91, v92, v93, v94, v95, v96, v97, v98, v99, v100, v101, v102, v103, v104, v105, v106, v107, v108, v109, v110, v111, v112, v113, v114, v115, v116, v117, v118, v119, v120, v121, v122, v123, v124, u125, u126, u127, u128, u129, u130, u131, u132, u133, u134, u135, u136, u137, u138, u139, u140, u141, u142, u143, u144, u145, u146, u147, u148, u149, u150, u151, u152, u153, u154, v155, v156, v157, v158, v159, v160, v161, v162, v163, v164, v165, v166, v167, v168, v169, v170, v171], defers := [] } w') :
    Code.wp Try.prog (pcs Try.f14 [1, 1, 0, 1, 0, 0, 1, 0, 0, 1, 1, 0, 1, 0, 0, 1, 0, 0, 1, 1, 1, 0, 1, 1, 1, 0, 1, 0]) (Exit.inBlock 7 Q) { tmps := #[v0, v1, v2, v3, v4, .pointer (some ⟨bt, 0, none⟩), v6, .pointer (some ⟨be, 0, none⟩), v8, v9, .int .i64 0, v11, v12, v13, v14, v15, v16, v17, v18, v19, v20, v21, v22, v23, v24, v25, v26, v27, v28, v29, v30, v31, v32, v33, v34, v35, v36, v37, v38, v39, v40, v41, v42, v43, v44, v45, v46, v47, v48, v49, v50, v51, v52, v53, v54, v55, v56, v57, v58, v59, v60, v61, v62, v63, v64, v65, v66, v67, v68, v69, v70, v71, v72, v73, v74, v75, v76, v77, v78, v79, v80, v81, v82, v83, v84, v85, v86, v87, v88, v89, v90, v91, v92, v93, v94, v95, v96, v97, v98, v99, v100, v101, v102, v103, v104, v105, v106, v107, v108, v109, v110, v111, v112, v113, v114, v115, v116, v117, v118, v119, v120, v121, v122, v123, v124, v125, v126, v127, v128, v129, v130, v131, v132, v133, v134, v135, v136, v137, v138, v139, v140, v141, v142, v143, v144, v145, v146, v147, v148, v149, v150, v151, v152, v153, v154, v155, v156, v157, v158, v159, v160, v161, v162, v163, v164, v165, v166, v167, v168, v169, v170, v171], defers := [] } w := by
  dsimp only
  conv => arg 2; whnf
  have hk0 : (T.ac.length : Int) < 1000000 := by omega
  go_loopw [10] (fun nv wr => ∃ (n : Nat) (L4 : Blks), n ≤ T.ac.length ∧ nv = .int .i64 n ∧ Hid (Row accC 6 59 (relN T.ac y.ob n) (.slice va T.ac.length vc) L4) ∧ Hid (base.Own u0 wr ((be, 36, [.int .i64 ((y).k), .int .i64 ((y).th), .int .i64 ((y).tx), .int .i64 ((y).at_), .int .i64 ((y).ob), .int .i64 ((y).va), .int .i64 ((y).re)]) :: (bt, 32, trC T (.slice va T.ac.length vc)) :: L4))) (fun nv _ => (T.ac.length - intOf nv).toNat)
  case atStart => exact ⟨0, L2, by omega, rfl, by rw [relN_zero]; exact HRA, HO⟩
  case round =>
    obtain ⟨n, L4, hn, rfl, HR4, OR⟩ := hrel
    have y0 := OR.out.cell 0 0 rfl rfl; have y1 := OR.out.cell 0 1 rfl rfl; have y2 := OR.out.cell 0 2 rfl rfl; have y3 := OR.out.cell 0 3 rfl rfl; have y4 := OR.out.cell 0 4 rfl rfl; have y5 := OR.out.cell 0 5 rfl rfl; have y6 := OR.out.cell 0 6 rfl rfl; have t0 := OR.out.cell 1 0 rfl rfl; have t1 := OR.out.cell 1 1 rfl rfl; have t2 := OR.out.cell 1 2 rfl rfl; have t3 := OR.out.cell 1 3 rfl rfl; have t4 := OR.out.cell 1 4 rfl rfl; have t5 := OR.out.cell 1 5 rfl rfl; have t6 := OR.out.cell 1 6 rfl rfl; have t7 := OR.out.cell 1 7 rfl rfl; have t8 := OR.out.cell 1 8 rfl rfl
    by_cases hnl : n < T.ac.length
    · obtain ⟨g, cp, hv2⟩ := HR4.out.some (by rw [relN_len]; omega)
      rw [relN_len] at hv2
      cases hv2
      obtain ⟨a2, c2, hv2, HI⟩ := HR4.out.isL accC_len (own_flip (A := [_, _]) OR.out)
      rw [relN_len] at hv2
      cases hv2
      obtain ⟨gb, oo, hgo, hgb, z0, z1, z2, z3, z4, z5⟩ := accAt HI (relN_get hnl)
      cases hgo
      rw [Nat.zero_add] at z0 z1 z2 z3 z4 z5
      have f5 := row_free HR4.out (relN_len _ _ _).symm (own_flip (A := [_, _]) OR.out) (n * 6 + 5)
      have ST := Lib.hid (relN_step (o := y.ob) hnl)
      have RM := Lib.hid (row_mark HR4.out (relN_len _ _ _).symm (own_flip (A := [_, _]) OR.out.drew) (by rw [relN_len]; exact hnl))
      generalize T.ac[n] = X at *
      have hnl' : (n : Int) < (T.ac.length : Int) := by omega
      have hn6 : (n : Int) < 1000000 := by omega
      by_cases h2 : X.k = 2
      · have f2x : (X.k == 2) = true := by simp [h2]
        by_cases ho : X.ob = y.ob
        · have fo : (X.ob == y.ob) = true := by simp [ho]
          have HW := Lib.hid (show relN T.ac y.ob (n + 1) = setRel (relN T.ac y.ob n) n by rw [ST.out, if_pos ⟨h2, ho⟩])
          clear h2 ho
          go_wp2_with fail
          go_big_quiet (fail)
          have RN := Lib.hid (row_mark HR4.out (relN_len _ _ _).symm (own_flip (A := [_, _]) (OR.out.drewN nq)) (by rw [relN_len]; exact hnl))
          go_wp2
          obtain ⟨L5, r1, r2⟩ := RN.out
          go_roundw
          case rel => exact ⟨n + 1, L5, by omega, by go_num, by rw [HW.out]; exact r1, own_flip (B := [_, _]) r2⟩
          case measure => simp [intOf] <;> omega
        · have fo : (X.ob == y.ob) = false := by simp [ho]
          have HW := Lib.hid (show relN T.ac y.ob (n + 1) = relN T.ac y.ob n by rw [ST.out, if_neg (fun h => ho h.2)])
          clear h2 ho
          go_wp2_with fail
          go_big_quiet (fail)
          go_wp2
          go_roundw
          case rel => exact ⟨n + 1, L4, by omega, by go_num, by rw [HW.out]; exact HR4, Lib.hid (OR.out.drewN _)⟩
          case measure => simp [intOf] <;> omega
      · have f2x : (X.k == 2) = false := by simp [h2]
        have HW := Lib.hid (show relN T.ac y.ob (n + 1) = relN T.ac y.ob n by rw [ST.out, if_neg (fun h => h2 h.1)])
        clear h2
        go_wp2_with fail
        go_big_quiet (fail)
        go_wp2
        go_roundw
        case rel => exact ⟨n + 1, L4, by omega, by go_num, by rw [HW.out]; exact HR4, Lib.hid (OR.out.drewN _)⟩
        case measure => simp [intOf] <;> omega
    · obtain rfl : n = T.ac.length := by omega
      rw [relN_all] at HR4
      go_wp2
      exact hJ _ _ _ _ _ _ _ _ _ _ _ _ _ _ _ _ _ _ _ _ _ _ _ _ _ _ _ _ _ _ _ L4 _ HR4 OR
end Go.Proofs.Ytgnakcahmmdncaa.hs
