/- The document's Tries: loop 3: is it own?. A theorem of its own over that piece of the code. -/
import Derived.Test.YtgnakcahmmdncaaHx
import Derived.Test.YtgnakcahmmdncaaPiece
import Derived.Deep.RegionHeld3
import Derived.Deep.CutRange
import Derived.BigRegion
import Derived.BigQuiet
import Derived.Deep.QuietTactic
namespace Go.Proofs.Ytgnakcahmmdncaa.hs
open Go Go.RowKit Go.Proofs.Ytgnakcahmmdncaa.base Go.Maps
set_option linter.unusedVariables false
set_option maxRecDepth 100000

set_option maxHeartbeats 4000000 in
theorem piece3 (w : World) (u0 : World) (bt be ba k : Nat) (T : Tr) (y : Ev) (va : Option Addr) (vc : Nat) (L2 : Blks) (b2 : Bool) (hb2 : (y.k == 2) = b2) (hac : T.ac.length ≤ 10000) (HRA : Hid (Row accC 6 59 T.ac (.slice va T.ac.length vc) L2)) (HO : Hid (base.Own u0 w ((ba, 59, [.int .i64 k, .int .i64 y.k, .int .i64 y.ob, .int .i64 y.va, .bool (false), .bool false]) :: (be, 36, [.int .i64 ((y).k), .int .i64 ((y).th), .int .i64 ((y).tx), .int .i64 ((y).at_), .int .i64 ((y).ob), .int .i64 ((y).va), .int .i64 ((y).re)]) :: (bt, 32, trC T (.slice va T.ac.length vc)) :: L2))) {v0 v1 v2 v3 v4 v6 v10 v11 v12 v13 v14 v15 v16 v17 v18 v19 v20 v21 v22 v23 v24 v25 v26 v27 v28 v29 v30 v31 v32 v33 v34 v35 v36 v37 v38 v39 v40 v41 v42 v43 v44 v45 v46 v47 v48 v49 v50 v51 v52 v53 v54 v55 v56 v57 v58 v59 v60 v61 v62 v63 v64 v65 v66 v67 v68 v69 v70 v71 v72 v73 v74 v75 v76 v77 v78 v79 v80 v81 v82 v83 v84 v85 v86 v87 v88 v89 v90 v91 v92 v93 v94 v95 v96 v97 v98 v99 v100 v101 v102 v103 v104 v105 v106 v107 v108 v109 v110 v111 v112 v113 v114 v115 v116 v117 v118 v119 v120 v121 v122 v123 v124 v125 v126 v127 v128 v129 v130 v131 v132 v133 v134 v135 v136 v137 v138 v139 v140 v141 v142 v143 v144 v145 v146 v147 v148 v149 v150 v151 v152 v153 v154 v155 v156 v157 v158 v159 v160 v161 v162 v163 v164 v165 v166 v167 v168 v169 v170 v171 : Value} {Q : Exit → Act → World → Prop}
    (hJ : ∀ (u9 u82 u83 u84 u85 u86 u87 u88 u89 u90 u91 u92 u93 u94 u95 u96 u97 u98 u99 u100 u101 u102 u103 u104 u105 u106 u107 u108 u109 u110 u111 u112 u113 u114 u115 u116 : Value) (w' : World), Hid (base.Own u0 w' ((ba, 59, [.int .i64 k, .int .i64 y.k, .int .i64 y.ob, .int .i64 y.va, .bool (b2 && wrote T.ac y.ob), .bool false]) :: (be, 36, [.int .i64 ((y).k), .int .i64 ((y).th), .int .i64 ((y).tx), .int .i64 ((y).at_), .int .i64 ((y).ob), .int .i64 ((y).va), .int .i64 ((y).re)]) :: (bt, 32, trC T (.slice va T.ac.length vc)) :: L2)) → Q Exit.normal { tmps := #[v0, v1, v2, v3, v4, .pointer (some ⟨bt, 0, none⟩), v6, .pointer (some ⟨be, 0, none⟩), .pointer (some ⟨ba, 0, none⟩), u9, v10, v11, v12, v13, v14, v15, v16, v17, v18, v19, v20, v21, v22, v23, v24, v25, v26, v27, v28, v29, v30, v31, v32, v33, v34, v35, v36, v37, v38, v39, v40, v41, v42, v43, v44, v45, v46, v47, v48, v49, v50, v51, v52, v53, v54, v55, v56, v57, v58, v59, v60, v61, v62, v63, v64, v65, v66, v67, v68, v69, v70, v71, v72, v73, v74, v75, v76, v77, v78, v79, v80, v81, u82, u83, u84, u85, u86, u87, u88, u89, u90, u91, u92, u93, u94, u95, u96, u97, u98, u99, u100, u101, u102, u103, u104, u105, u106, u107, u108, u109, u110, u111, u112, u113, u114, u115, u116, v117, v118, v119, v120, v121, v122, v123, v124, v125, v126, v127, v128, v129, v130, v131, v132, v133, v134, v135, v136, v137, v138, v139, v140, v141, v142, v143, v144, v145, v146, v147, v148, v149, v150, v151, v152, v153, v154, v155, v156, v157, v158, v159, v160, v161, v162, v163, v164, v165, v166, v167, v168, v169, v170, v171], defers := [] } w') :
    Code.wp Try.prog (pcs Try.f14 [1, 1, 0, 1, 0, 0, 1, 0, 0, 1, 1, 0, 1, 0, 0, 1, 0, 0, 1, 1, 1, 0, 1, 0, 1, 0, 1, 0]) (Exit.inBlock 5 Q) { tmps := #[v0, v1, v2, v3, v4, .pointer (some ⟨bt, 0, none⟩), v6, .pointer (some ⟨be, 0, none⟩), .pointer (some ⟨ba, 0, none⟩), .int .i64 0, v10, v11, v12, v13, v14, v15, v16, v17, v18, v19, v20, v21, v22, v23, v24, v25, v26, v27, v28, v29, v30, v31, v32, v33, v34, v35, v36, v37, v38, v39, v40, v41, v42, v43, v44, v45, v46, v47, v48, v49, v50, v51, v52, v53, v54, v55, v56, v57, v58, v59, v60, v61, v62, v63, v64, v65, v66, v67, v68, v69, v70, v71, v72, v73, v74, v75, v76, v77, v78, v79, v80, v81, v82, v83, v84, v85, v86, v87, v88, v89, v90, v91, v92, v93, v94, v95, v96, v97, v98, v99, v100, v101, v102, v103, v104, v105, v106, v107, v108, v109, v110, v111, v112, v113, v114, v115, v116, v117, v118, v119, v120, v121, v122, v123, v124, v125, v126, v127, v128, v129, v130, v131, v132, v133, v134, v135, v136, v137, v138, v139, v140, v141, v142, v143, v144, v145, v146, v147, v148, v149, v150, v151, v152, v153, v154, v155, v156, v157, v158, v159, v160, v161, v162, v163, v164, v165, v166, v167, v168, v169, v170, v171], defers := [] } w := by
  dsimp only
  conv => arg 2; whnf
  have HJ := Lib.hid hJ
  clear hJ
  have hk0 : T.ac.length < 1000000 := by omega
  cases b2 with
  | false =>
    go_loopw [9] (fun nv wr => ∃ n : Nat, n ≤ T.ac.length ∧ nv = .int .i64 n ∧ Hid (base.Own u0 wr ((ba, 59, [.int .i64 k, .int .i64 y.k, .int .i64 y.ob, .int .i64 y.va, .bool (false), .bool false]) :: (be, 36, [.int .i64 ((y).k), .int .i64 ((y).th), .int .i64 ((y).tx), .int .i64 ((y).at_), .int .i64 ((y).ob), .int .i64 ((y).va), .int .i64 ((y).re)]) :: (bt, 32, trC T (.slice va T.ac.length vc)) :: L2))) (fun nv _ => (T.ac.length - intOf nv).toNat)
    case atStart => exact ⟨0, by omega, rfl, HO⟩
    case round =>
      obtain ⟨n, hn, rfl, OR⟩ := hrel
      have x0 := OR.out.cell 0 0 rfl rfl; have x1 := OR.out.cell 0 1 rfl rfl; have x2 := OR.out.cell 0 2 rfl rfl; have x3 := OR.out.cell 0 3 rfl rfl; have x4 := OR.out.cell 0 4 rfl rfl; have x5 := OR.out.cell 0 5 rfl rfl; have y0 := OR.out.cell 1 0 rfl rfl; have y1 := OR.out.cell 1 1 rfl rfl; have y2 := OR.out.cell 1 2 rfl rfl; have y3 := OR.out.cell 1 3 rfl rfl; have y4 := OR.out.cell 1 4 rfl rfl; have y5 := OR.out.cell 1 5 rfl rfl; have y6 := OR.out.cell 1 6 rfl rfl; have t0 := OR.out.cell 2 0 rfl rfl; have t1 := OR.out.cell 2 1 rfl rfl; have t2 := OR.out.cell 2 2 rfl rfl; have t3 := OR.out.cell 2 3 rfl rfl; have t4 := OR.out.cell 2 4 rfl rfl; have t5 := OR.out.cell 2 5 rfl rfl; have t6 := OR.out.cell 2 6 rfl rfl; have t7 := OR.out.cell 2 7 rfl rfl; have t8 := OR.out.cell 2 8 rfl rfl
      have fx4 := OR.out.free 0 4 rfl
      by_cases hnl : n < T.ac.length
      · obtain ⟨a2, c2, hv2, HI⟩ := HRA.out.isL accC_len (own_flip (A := [_, _, _]) OR.out)
        cases hv2
        obtain ⟨gb, oo, rfl, hgb, z0, z1, z2, z3, z4, z5⟩ := accAt HI (List.getElem?_eq_getElem hnl)
        have WT := Lib.hid (wrote_take (List.getElem?_eq_getElem hnl) y.ob)
        generalize T.ac[n] = X at *
        have hnl' : (n : Int) < (T.ac.length : Int) := by omega
        have hn6 : (n : Int) < 1000000 := by omega
        go_wp2_with fail
        go_region
        have OZ := Lib.hid ((OR.out.set 0 4 (.bool false) rfl).drew)
        go_wp2
        go_roundw
        case rel => exact ⟨n + 1, by omega, by go_num, by show _; exact OZ.out⟩
        case measure => simp [intOf] <;> omega
      · obtain rfl : n = T.ac.length := by omega
        go_wp2
        exact HJ.out _ _ _ _ _ _ _ _ _ _ _ _ _ _ _ _ _ _ _ _ _ _ _ _ _ _ _ _ _ _ _ _ _ _ _ _ _ OR
  | true =>
    go_loopw [9] (fun nv wr => ∃ n : Nat, n ≤ T.ac.length ∧ nv = .int .i64 n ∧ Hid (base.Own u0 wr ((ba, 59, [.int .i64 k, .int .i64 y.k, .int .i64 y.ob, .int .i64 y.va, .bool (wrote (T.ac.take n) y.ob), .bool false]) :: (be, 36, [.int .i64 ((y).k), .int .i64 ((y).th), .int .i64 ((y).tx), .int .i64 ((y).at_), .int .i64 ((y).ob), .int .i64 ((y).va), .int .i64 ((y).re)]) :: (bt, 32, trC T (.slice va T.ac.length vc)) :: L2))) (fun nv _ => (T.ac.length - intOf nv).toNat)
    case atStart => exact ⟨0, by omega, rfl, HO⟩
    case round =>
      obtain ⟨n, hn, rfl, OR⟩ := hrel
      have x0 := OR.out.cell 0 0 rfl rfl; have x1 := OR.out.cell 0 1 rfl rfl; have x2 := OR.out.cell 0 2 rfl rfl; have x3 := OR.out.cell 0 3 rfl rfl; have x4 := OR.out.cell 0 4 rfl rfl; have x5 := OR.out.cell 0 5 rfl rfl; have y0 := OR.out.cell 1 0 rfl rfl; have y1 := OR.out.cell 1 1 rfl rfl; have y2 := OR.out.cell 1 2 rfl rfl; have y3 := OR.out.cell 1 3 rfl rfl; have y4 := OR.out.cell 1 4 rfl rfl; have y5 := OR.out.cell 1 5 rfl rfl; have y6 := OR.out.cell 1 6 rfl rfl; have t0 := OR.out.cell 2 0 rfl rfl; have t1 := OR.out.cell 2 1 rfl rfl; have t2 := OR.out.cell 2 2 rfl rfl; have t3 := OR.out.cell 2 3 rfl rfl; have t4 := OR.out.cell 2 4 rfl rfl; have t5 := OR.out.cell 2 5 rfl rfl; have t6 := OR.out.cell 2 6 rfl rfl; have t7 := OR.out.cell 2 7 rfl rfl; have t8 := OR.out.cell 2 8 rfl rfl
      have fx4 := OR.out.free 0 4 rfl
      by_cases hnl : n < T.ac.length
      · obtain ⟨a2, c2, hv2, HI⟩ := HRA.out.isL accC_len (own_flip (A := [_, _, _]) OR.out)
        cases hv2
        obtain ⟨gb, oo, rfl, hgb, z0, z1, z2, z3, z4, z5⟩ := accAt HI (List.getElem?_eq_getElem hnl)
        have WT := Lib.hid (wrote_take (List.getElem?_eq_getElem hnl) y.ob)
        generalize T.ac[n] = X at *
        have hnl' : (n : Int) < (T.ac.length : Int) := by omega
        have hn6 : (n : Int) < 1000000 := by omega
        obtain ⟨W0, hW0⟩ : ∃ W0, W0 = wrote (T.ac.take n) y.ob := ⟨_, rfl⟩
        rw [← hW0] at OR WT x4
        clear hW0
        cases W0 with
        | true =>
          have HW := Lib.hid (show wrote (T.ac.take (n + 1)) y.ob = true by rw [WT.out, Bool.true_or])
          go_wp2_with fail
          go_region
          have OZ := Lib.hid ((OR.out.set 0 4 (.bool true) rfl).drew)
          go_wp2
          go_roundw
          case rel => exact ⟨n + 1, by omega, by go_num, by rw [HW.out]; exact OZ.out⟩
          case measure => simp [intOf] <;> omega
        | false =>
          by_cases h3 : X.k = 3
          · have f3 : (X.k == 3) = true := by simp [h3]
            by_cases ho : X.ob = y.ob
            · have fo : (X.ob == y.ob) = true := by simp [ho]
              have HW := Lib.hid (show wrote (T.ac.take (n + 1)) y.ob = true by rw [WT.out]; simp [h3, ho])
              clear h3 ho WT
              go_wp2_with fail
              go_region
              have OZ := Lib.hid ((OR.out.set 0 4 (.bool true) rfl).drew)
              go_wp2
              go_roundw
              case rel => exact ⟨n + 1, by omega, by go_num, by rw [HW.out]; exact OZ.out⟩
              case measure => simp [intOf] <;> omega
            · have fo : (X.ob == y.ob) = false := by simp [ho]
              have HW := Lib.hid (show wrote (T.ac.take (n + 1)) y.ob = false by rw [WT.out]; simp [ho])
              clear h3 ho WT
              go_wp2_with fail
              go_region
              have OZ := Lib.hid ((OR.out.set 0 4 (.bool false) rfl).drew)
              go_wp2
              go_roundw
              case rel => exact ⟨n + 1, by omega, by go_num, by rw [HW.out]; exact OZ.out⟩
              case measure => simp [intOf] <;> omega
          · have f3 : (X.k == 3) = false := by simp [h3]
            have HW := Lib.hid (show wrote (T.ac.take (n + 1)) y.ob = false by rw [WT.out]; simp [h3])
            clear h3 WT
            go_wp2_with fail
            go_region
            have OZ := Lib.hid ((OR.out.set 0 4 (.bool false) rfl).drew)
            go_wp2
            go_roundw
            case rel => exact ⟨n + 1, by omega, by go_num, by rw [HW.out]; exact OZ.out⟩
            case measure => simp [intOf] <;> omega
      · obtain rfl : n = T.ac.length := by omega
        rw [wrote_all] at OR
        go_wp2
        exact HJ.out _ _ _ _ _ _ _ _ _ _ _ _ _ _ _ _ _ _ _ _ _ _ _ _ _ _ _ _ _ _ _ _ _ _ _ _ _ OR
end Go.Proofs.Ytgnakcahmmdncaa.hs
