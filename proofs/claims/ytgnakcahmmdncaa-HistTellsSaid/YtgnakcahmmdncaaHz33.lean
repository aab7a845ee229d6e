/- The document's Tries: region 33. A theorem of its own over that piece of the code. -/
import Derived.Test.YtgnakcahmmdncaaHx
import Derived.Test.YtgnakcahmmdncaaPiece
import Derived.Deep.RegionHeld3
import Derived.Deep.CutRange
import Derived.BigRegion
import Derived.BigQuiet
import Derived.Deep.QuietTactic
namespace Go.Proofs.Ytgnakcahmmdncaa.hs
open Go Go.RowKit Go.Proofs.Ytgnakcahmmdncaa.base Go.Maps
set_option linter.unusedVariables false
set_option maxRecDepth 100000

theorem infoTryD : (Try.prog.info? 32).map (fun i => (i.zero, i.size, i.bytes)) = some (some (.agg #[.int .i64 0, .int .i64 0, .int .i64 0, .int .i64 0, .int .i64 0, .int .i64 0, .int .i64 0, .bool false, .slice none 0 0]), 9, 88) := by kernel_rfl

set_option maxHeartbeats 4000000 in
theorem piece33 (w : World) (w0 u0 : World) (bt : Nat) (ys : List (Tr × Value)) (T : Tr) (v : Value) (oa : Option Addr) (oc : Nat) (L L2 : Blks) (hyl : ys.length ≤ 10000) (hg : Hid (u0.grownBy w none)) (HROW : Hid (Row tvC 9 32 ys (.slice oa ys.length oc) L)) (HO : Hid (base.Own w0 u0 L)) (HAC : Hid (∀ x ∈ ys, u0.ownsRow 0 59 6 x.2 x.1.ac.length (rows accC x.1.ac))) (HRA : Hid (Row accC 6 59 T.ac v L2)) (HOW : Hid (base.Own u0 w ((bt, 32, trC T v) :: L2))) {v0 v1 v2 v4 v6 v7 v8 v9 v10 v11 v12 v13 v14 v15 v16 v17 v18 v19 v20 v21 v22 v23 v24 v25 v26 v27 v28 v29 v30 v31 v32 v33 v34 v35 v36 v37 v38 v39 v40 v41 v42 v43 v44 v45 v46 v47 v48 v49 v50 v51 v52 v53 v54 v55 v56 v57 v58 v59 v60 v61 v62 v63 v64 v65 v66 v67 v68 v69 v70 v71 v72 v73 v74 v75 v76 v77 v78 v79 v80 v81 v82 v83 v84 v85 v86 v87 v88 v89 v90 v91 v92 v93 v94 v95 v96 v97 v98 v99 v100 v101 v102 v103 v104 v105 v106 v107 v108 v109 v110 v111 v112 v113 v114 v115 v116 v117 v118 v119 v120 v121 v122 v123 v124 v125 v126 v127 v128 v129 v130 v131 v132 v133 v134 v135 v136 v137 v138 v139 v140 v141 v142 v143 v144 v145 v146 v147 v148 v149 v150 v151 v152 v153 v154 v155 v156 v157 v158 v159 v160 v161 v162 v163 v164 v165 v166 v167 v168 v169 v170 v171 : Value} {Q : Exit → Act → World → Prop}
    (hJ : ∀ (u167 u168 u169 u170 : Value) (g' c' : Nat) (L' : Blks) (w' : World), Hid (Row tvC 9 32 (ys ++ [(T, v)]) (.slice (some ⟨g', 0, none⟩) (ys.length + 1) c') L') → Hid (base.Own w0 w' L') → Hid (∀ x ∈ ys ++ [(T, v)], w'.ownsRow 0 59 6 x.2 x.1.ac.length (rows accC x.1.ac)) → Q Exit.normal { tmps := #[v0, v1, v2, .slice (some ⟨g', 0, none⟩) (ys.length + 1) c', v4, .pointer (some ⟨bt, 0, none⟩), v6, v7, v8, v9, v10, v11, v12, v13, v14, v15, v16, v17, v18, v19, v20, v21, v22, v23, v24, v25, v26, v27, v28, v29, v30, v31, v32, v33, v34, v35, v36, v37, v38, v39, v40, v41, v42, v43, v44, v45, v46, v47, v48, v49, v50, v51, v52, v53, v54, v55, v56, v57, v58, v59, v60, v61, v62, v63, v64, v65, v66, v67, v68, v69, v70, v71, v72, v73, v74, v75, v76, v77, v78, v79, v80, v81, v82, v83, v84, v85, v86, v87, v88, v89, v90, v91, v92, v93, v94, v95, v96, v97, v98, v99, v100, v101, v102, v103, v104, v105, v106, v107, v108, v109, v110, v111, v112, v113, v114, v115, v116, v117, v118, v119, v120, v121, v122, v123, v124, v125, v126, v127, v128, v129, v130, v131, v132, v133, v134, v135, v136, v137, v138, v139, v140, v141, v142, v143, v144, v145, v146, v147, v148, v149, v150, v151, v152, v153, v154, v155, v156, v157, v158, v159, v160, v161, v162, v163, v164, v165, v166, u167, u168, u169, u170, v171], defers := [] } w') :
    Code.wp Try.prog (pcs Try.f14 [1, 1, 0, 1, 0, 0, 1, 0, 0, 1, 1, 1]) (Q) { tmps := #[v0, v1, v2, .slice oa ys.length oc, v4, .pointer (some ⟨bt, 0, none⟩), v6, v7, v8, v9, v10, v11, v12, v13, v14, v15, v16, v17, v18, v19, v20, v21, v22, v23, v24, v25, v26, v27, v28, v29, v30, v31, v32, v33, v34, v35, v36, v37, v38, v39, v40, v41, v42, v43, v44, v45, v46, v47, v48, v49, v50, v51, v52, v53, v54, v55, v56, v57, v58, v59, v60, v61, v62, v63, v64, v65, v66, v67, v68, v69, v70, v71, v72, v73, v74, v75, v76, v77, v78, v79, v80, v81, v82, v83, v84, v85, v86, v87, v88, v89, v90, v91, v92, v93, v94, v95, v96, v97, v98, v99, v100, v101, v102, v103, v104, v105, v106, v107, v108, v109, v110, v111, v112, v113, v114, v115, v116, v117, v118, v119, v120, v121, v122, v123, v124, v125, v126, v127, v128, v129, v130, v131, v132, v133, v134, v135, v136, v137, v138, v139, v140, v141, v142, v143, v144, v145, v146, v147, v148, v149, v150, v151, v152, v153, v154, v155, v156, v157, v158, v159, v160, v161, v162, v163, v164, v165, v166, v167, v168, v169, v170, v171], defers := [] } w := by
  dsimp only
  conv => arg 2; whnf
  obtain ⟨i0, hi0, hz00, hz10, hz20⟩ := info_parts infoTryD
  have hi := Lib.hid hi0
  have hz0 := Lib.hid hz00
  have hz1 := Lib.hid hz10
  have hz2 := Lib.hid hz20
  clear hi0 hz00 hz10 hz20
  obtain ⟨va, vc, rfl⟩ := HRA.out.slice
  have t0 := HOW.out.cell 0 0 rfl rfl; have t1 := HOW.out.cell 0 1 rfl rfl; have t2 := HOW.out.cell 0 2 rfl rfl; have t3 := HOW.out.cell 0 3 rfl rfl; have t4 := HOW.out.cell 0 4 rfl rfl; have t5 := HOW.out.cell 0 5 rfl rfl; have t6 := HOW.out.cell 0 6 rfl rfl; have t7 := HOW.out.cell 0 7 rfl rfl; have t8 := HOW.out.cell 0 8 rfl rfl
  have HOUT := Lib.hid (HO.out.grown hg.out)
  have HOWN := Lib.hid (HROW.out.owns tvC_len (R := []) (by rw [List.append_nil]; exact HOUT.out))
  have HXS := Lib.hid (HRA.out.owns accC_len (own_flip (A := [_]) HOW.out))
  have hbase := HO.out.grow.size
  have hbase2 := HOW.out.grow.size
  go_wp2_with (first | (at_builtin; refine wpList_append_at _ rfl (.tmp 167) (.tmp 169) 28 rfl w0.heap.size 32 i0 (.agg #[.int .i64 0, .int .i64 0, .int .i64 0, .int .i64 0, .int .i64 0, .int .i64 0, .int .i64 0, .bool false, .slice none 0 0]) 9 88 Try.underlying28 hi.out hz0.out hz1.out hz2.out rfl (by decide) (.slice oa ys.length oc) ys.length (rows tvC ys) rfl (HOWN.out.alloc _) ⟨w.heap.size, 0, none⟩ 1 1 (tvC (T, .slice va T.ac.length vc)) rfl rfl (new_cells w _ _) (by intro u hu; simp [tvC, trC] at hu; rcases hu with rfl | rfl | rfl | rfl | rfl | rfl | rfl | rfl | rfl <;> rfl) (by unfold maxLen; omega) (by omega) (by simp; omega) (by decide) ?_; intro g' c' w5 ho hg2 hv; obtain ⟨L', r1, r2⟩ := base.Row.snoc (x := (T, .slice va T.ac.length vc)) HROW.out (R := []) (by rw [List.append_nil]; exact HOUT.out) (World.grownBy_alloc w _ none) ho hg2 hv; rw [List.append_nil] at r2; have R1 := Lib.hid r1; have R2 := Lib.hid r2; have R3 := Lib.hid (acs_snoc (x := (T, .slice va T.ac.length vc)) HAC.out hg.out HXS.out HOWN.out (by decide) (gb_trans (World.grownBy_alloc w _ _) hg2)); clear ho hg2 hv r1 r2) | go_in)
  exact hJ _ _ _ _ g' c' L' _ R1 R2 R3
end Go.Proofs.Ytgnakcahmmdncaa.hs
