/- The document's Tries: region 20. A theorem of its own over that piece of the code. -/
import Derived.Test.YtgnakcahmmdncaaHx
import Derived.Test.YtgnakcahmmdncaaPiece
import Derived.Deep.RegionHeld3
import Derived.Deep.CutRange
import Derived.BigRegion
import Derived.BigQuiet
import Derived.Deep.QuietTactic
namespace Go.Proofs.Ytgnakcahmmdncaa.hs
open Go Go.RowKit Go.Proofs.Ytgnakcahmmdncaa.base Go.Maps
set_option linter.unusedVariables false
set_option maxRecDepth 100000

theorem infoAccD : (Try.prog.info? 59).map (fun i => (i.zero, i.size, i.bytes)) = some (some (.agg #[.int .i64 0, .int .i64 0, .int .i64 0, .int .i64 0, .bool false, .bool false]), 6, 40) := by kernel_rfl

set_option maxHeartbeats 4000000 in
theorem piece20 (w : World) (u0 : World) (bt be ba k : Nat) (T : Tr) (y : Ev) (o : Bool) (va : Option Addr) (vc : Nat) (L2 : Blks) (hac : T.ac.length ≤ 10000) (HRA : Hid (Row accC 6 59 T.ac (.slice va T.ac.length vc) L2)) (HO : Hid (base.Own u0 w ((ba, 59, [.int .i64 k, .int .i64 y.k, .int .i64 y.ob, .int .i64 y.va, .bool (o), .bool false]) :: (be, 36, [.int .i64 ((y).k), .int .i64 ((y).th), .int .i64 ((y).tx), .int .i64 ((y).at_), .int .i64 ((y).ob), .int .i64 ((y).va), .int .i64 ((y).re)]) :: (bt, 32, trC T (.slice va T.ac.length vc)) :: L2))) {v0 v1 v2 v3 v4 v6 v7 v9 v10 v11 v12 v13 v14 v15 v16 v17 v18 v19 v20 v21 v22 v23 v24 v25 v26 v27 v28 v29 v30 v31 v32 v33 v34 v35 v36 v37 v38 v39 v40 v41 v42 v43 v44 v45 v46 v47 v48 v49 v50 v51 v52 v53 v54 v55 v56 v57 v58 v59 v60 v61 v62 v63 v64 v65 v66 v67 v68 v69 v70 v71 v72 v73 v74 v75 v76 v77 v78 v79 v80 v81 v82 v83 v84 v85 v86 v87 v88 v89 v90 v91 v92 v93 v94 v95 v96 v97 v98 v99 v100 v101 v102 v103 v104 v105 v106 v107 v108 v109 v110 v111 v112 v113 v114 v115 v116 v117 v118 v119 v120 v121 v122 v123 v124 v125 v126 v127 v128 v129 v130 v131 v132 v133 v134 v135 v136 v137 v138 v139 v140 v141 v142 v143 v144 v145 v146 v147 v148 v149 v150 v151 v152 v153 v154 v155 v156 v157 v158 v159 v160 v161 v162 v163 v164 v165 v166 v167 v168 v169 v170 v171 : Value} {Q : Exit → Act → World → Prop}
    (hJ : ∀ (u117 u118 u119 u120 u121 u122 : Value) (g' c' : Nat) (L3 : Blks) (w' : World), Hid (Row accC 6 59 (T.ac ++ [(⟨k, y.k, y.ob, y.va, o, false⟩ : Acc)]) (.slice (some ⟨g', 0, none⟩) (T.ac.length + 1) c') L3) → Hid (base.Own u0 w' ((ba, 59, [.int .i64 k, .int .i64 y.k, .int .i64 y.ob, .int .i64 y.va, .bool (o), .bool false]) :: (be, 36, [.int .i64 ((y).k), .int .i64 ((y).th), .int .i64 ((y).tx), .int .i64 ((y).at_), .int .i64 ((y).ob), .int .i64 ((y).va), .int .i64 ((y).re)]) :: (bt, 32, trC T (.slice (some ⟨g', 0, none⟩) (T.ac.length + 1) c')) :: L3)) → Q Exit.normal { tmps := #[v0, v1, v2, v3, v4, .pointer (some ⟨bt, 0, none⟩), v6, v7, .pointer (some ⟨ba, 0, none⟩), v9, v10, v11, v12, v13, v14, v15, v16, v17, v18, v19, v20, v21, v22, v23, v24, v25, v26, v27, v28, v29, v30, v31, v32, v33, v34, v35, v36, v37, v38, v39, v40, v41, v42, v43, v44, v45, v46, v47, v48, v49, v50, v51, v52, v53, v54, v55, v56, v57, v58, v59, v60, v61, v62, v63, v64, v65, v66, v67, v68, v69, v70, v71, v72, v73, v74, v75, v76, v77, v78, v79, v80, v81, v82, v83, v84, v85, v86, v87, v88, v89, v90, v91, v92, v93, v94, v95, v96, v97, v98, v99, v100, v101, v102, v103, v104, v105, v106, v107, v108, v109, v110, v111, v112, v113, v114, v115, v116, u117, u118, u119, u120, u121, u122, v123, v124, v125, v126, v127, v128, v129, v130, v131, v132, v133, v134, v135, v136, v137, v138, v139, v140, v141, v142, v143, v144, v145, v146, v147, v148, v149, v150, v151, v152, v153, v154, v155, v156, v157, v158, v159, v160, v161, v162, v163, v164, v165, v166, v167, v168, v169, v170, v171], defers := [] } w') :
    Code.wp Try.prog (pcs Try.f14 [1, 1, 0, 1, 0, 0, 1, 0, 0, 1, 1, 0, 1, 0, 0, 1, 0, 0, 1, 1, 1, 0, 1, 0, 1, 1]) (Q) { tmps := #[v0, v1, v2, v3, v4, .pointer (some ⟨bt, 0, none⟩), v6, v7, .pointer (some ⟨ba, 0, none⟩), v9, v10, v11, v12, v13, v14, v15, v16, v17, v18, v19, v20, v21, v22, v23, v24, v25, v26, v27, v28, v29, v30, v31, v32, v33, v34, v35, v36, v37, v38, v39, v40, v41, v42, v43, v44, v45, v46, v47, v48, v49, v50, v51, v52, v53, v54, v55, v56, v57, v58, v59, v60, v61, v62, v63, v64, v65, v66, v67, v68, v69, v70, v71, v72, v73, v74, v75, v76, v77, v78, v79, v80, v81, v82, v83, v84, v85, v86, v87, v88, v89, v90, v91, v92, v93, v94, v95, v96, v97, v98, v99, v100, v101, v102, v103, v104, v105, v106, v107, v108, v109, v110, v111, v112, v113, v114, v115, v116, v117, v118, v119, v120, v121, v122, v123, v124, v125, v126, v127, v128, v129, v130, v131, v132, v133, v134, v135, v136, v137, v138, v139, v140, v141, v142, v143, v144, v145, v146, v147, v148, v149, v150, v151, v152, v153, v154, v155, v156, v157, v158, v159, v160, v161, v162, v163, v164, v165, v166, v167, v168, v169, v170, v171], defers := [] } w := by
  dsimp only
  conv => arg 2; whnf
  obtain ⟨i0, hi0, hz00, hz10, hz20⟩ := info_parts infoAccD
  have hi := Lib.hid hi0
  have hz0 := Lib.hid hz00
  have hz1 := Lib.hid hz10
  have hz2 := Lib.hid hz20
  clear hi0 hz00 hz10 hz20
  have x0 := HO.out.cell 0 0 rfl rfl; have x1 := HO.out.cell 0 1 rfl rfl; have x2 := HO.out.cell 0 2 rfl rfl; have x3 := HO.out.cell 0 3 rfl rfl; have x4 := HO.out.cell 0 4 rfl rfl; have x5 := HO.out.cell 0 5 rfl rfl; have t0 := HO.out.cell 2 0 rfl rfl; have t1 := HO.out.cell 2 1 rfl rfl; have t2 := HO.out.cell 2 2 rfl rfl; have t3 := HO.out.cell 2 3 rfl rfl; have t4 := HO.out.cell 2 4 rfl rfl; have t5 := HO.out.cell 2 5 rfl rfl; have t6 := HO.out.cell 2 6 rfl rfl; have t7 := HO.out.cell 2 7 rfl rfl; have t8 := HO.out.cell 2 8 rfl rfl
  have HOWN := Lib.hid (HRA.out.owns accC_len (own_flip (A := [_, _, _]) HO.out))
  have hb2 := HO.out.grow.size
  have hk0 : (T.ac.length : Int) < 1000000 := by omega
  go_wp2_with (first | (at_builtin; refine wpList_append_at _ rfl (.tmp 118) (.tmp 120) 30 rfl u0.heap.size 59 i0 (.agg #[.int .i64 0, .int .i64 0, .int .i64 0, .int .i64 0, .bool false, .bool false]) 6 40 Try.underlying30 hi.out hz0.out hz1.out hz2.out rfl (by decide) (.slice va T.ac.length vc) T.ac.length (rows accC T.ac) rfl (HOWN.out.alloc _) ⟨w.heap.size, 0, none⟩ 1 1 (accC (⟨k, y.k, y.ob, y.va, o, false⟩ : Acc)) rfl rfl (new_cells w _ _) (accC_one [(⟨k, y.k, y.ob, y.va, o, false⟩ : Acc)]) (by unfold maxLen; omega) (by omega) (by simp; omega) (by decide) ?_; intro g' c' w5 ho hg hv; obtain ⟨L3, r1, r2⟩ := base.Row.snoc (x := (⟨k, y.k, y.ob, y.va, o, false⟩ : Acc)) HRA.out (own_flip (A := [_, _, _]) HO.out) (World.grownBy_alloc w _ none) ho hg hv; have R1 := Lib.hid r1; have R2 := Lib.hid (own_flip (B := [_, _, _]) r2); have c8 := R2.out.cell 2 8 rfl rfl; have f8 := R2.out.free 2 8 rfl; clear ho hg hv r1 r2) | go_in)
  exact hJ _ _ _ _ _ _ g' c' L3 _ R1 (R2.out.set 2 8 (.slice (some ⟨g', 0, none⟩) (T.ac.length + 1) c') rfl)
end Go.Proofs.Ytgnakcahmmdncaa.hs
