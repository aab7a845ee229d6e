/- The document's Tries: loop 2. A theorem of its own over that piece of the code. -/
import Derived.Test.YtgnakcahmmdncaaHx
import Derived.Test.YtgnakcahmmdncaaPiece
import Derived.Deep.RegionHeld3
import Derived.Deep.CutRange
import Derived.BigRegion
import Derived.BigQuiet
import Derived.Deep.QuietTactic
import Derived.Test.YtgnakcahmmdncaaHz11
import Derived.Test.YtgnakcahmmdncaaHz3
import Derived.Test.YtgnakcahmmdncaaHz20
import Derived.Test.YtgnakcahmmdncaaHz4
namespace Go.Proofs.Ytgnakcahmmdncaa.hs
open Go Go.RowKit Go.Proofs.Ytgnakcahmmdncaa.base Go.Maps
set_option linter.unusedVariables false
set_option maxRecDepth 100000

set_option maxHeartbeats 4000000 in
theorem piece2 (w u0 : World) (eb off len cap : Nat) (e : Evs) (i bt : Nat) (hl : IsEvs u0 (some ⟨eb, off, none⟩) len e) (hr : right e len = true) (hlt : i < len) (h1 : (e i).k = 1) (hlen : len ≤ 10000) (HO : Hid (base.Own u0 w [(bt, 32, trC (init i (e i)) (.slice none 0 0))])) {v1 v2 v3 v7 v8 v9 v10 v11 v12 v13 v14 v15 v16 v17 v18 v19 v20 v21 v22 v23 v24 v25 v26 v27 v28 v29 v30 v31 v32 v33 v34 v35 v36 v37 v38 v39 v40 v41 v42 v43 v44 v45 v46 v47 v48 v49 v50 v51 v52 v53 v54 v55 v56 v57 v58 v59 v60 v61 v62 v63 v64 v65 v66 v67 v68 v69 v70 v71 v72 v73 v74 v75 v76 v77 v78 v79 v80 v81 v82 v83 v84 v85 v86 v87 v88 v89 v90 v91 v92 v93 v94 v95 v96 v97 v98 v99 v100 v101 v102 v103 v104 v105 v106 v107 v108 v109 v110 v111 v112 v113 v114 v115 v116 v117 v118 v119 v120 v121 v122 v123 v124 v125 v126 v127 v128 v129 v130 v131 v132 v133 v134 v135 v136 v137 v138 v139 v140 v141 v142 v143 v144 v145 v146 v147 v148 v149 v150 v151 v152 v153 v154 v155 v156 v157 v158 v159 v160 v161 v162 v163 v164 v165 v166 v167 v168 v169 v170 v171 : Value} {Q : Exit → Act → World → Prop}
    (hJ : ∀ (u6 u7 u8 u9 u10 u47 u48 u49 u50 u51 u52 u53 u54 u55 u56 u57 u58 u59 u60 u61 u62 u63 u64 u65 u66 u67 u68 u69 u70 u71 u72 u73 u74 u75 u76 u77 u78 u79 u80 u81 u82 u83 u84 u85 u86 u87 u88 u89 u90 u91 u92 u93 u94 u95 u96 u97 u98 u99 u100 u101 u102 u103 u104 u105 u106 u107 u108 u109 u110 u111 u112 u113 u114 u115 u116 u117 u118 u119 u120 u121 u122 u123 u124 u125 u126 u127 u128 u129 u130 u131 u132 u133 u134 u135 u136 u137 u138 u139 u140 u141 u142 u143 u144 u145 u146 u147 u148 u149 u150 u151 u152 u153 u154 u155 u156 u157 u158 u159 u160 u161 u162 u163 u164 u165 u166 : Value) (v : Value) (L2 : Blks) (w' : World), Hid (Row accC 6 59 (trAt e i len).ac v L2) → Hid (base.Own u0 w' ((bt, 32, trC (trAt e i len) v) :: L2)) → Q Exit.normal { tmps := #[.slice (some ⟨eb, off, none⟩) len cap, v1, v2, v3, .int .i64 i, .pointer (some ⟨bt, 0, none⟩), u6, u7, u8, u9, u10, v11, v12, v13, v14, v15, v16, v17, v18, v19, v20, v21, v22, v23, v24, v25, v26, v27, v28, v29, v30, v31, v32, v33, v34, v35, v36, v37, v38, v39, v40, v41, v42, v43, v44, v45, v46, u47, u48, u49, u50, u51, u52, u53, u54, u55, u56, u57, u58, u59, u60, u61, u62, u63, u64, u65, u66, u67, u68, u69, u70, u71, u72, u73, u74, u75, u76, u77, u78, u79, u80, u81, u82, u83, u84, u85, u86, u87, u88, u89, u90, u91, u92, u93, u94, u95, u96, u97, u98, u99, u100, u101, u102, u103, u104, u105, u106, u107, u108, u109, u110, u111, u112, u113, u114, u115, u116, u117, u118, u119, u120, u121, u122, u123, u124, u125, u126, u127, u128, u129, u130, u131, u132, u133, u134, u135, u136, u137, u138, u139, u140, u141, u142, u143, u144, u145, u146, u147, u148, u149, u150, u151, u152, u153, u154, u155, u156, u157, u158, u159, u160, u161, u162, u163, u164, u165, u166, v167, v168, v169, v170, v171], defers := [] } w') :
    Code.wp Try.prog (pcs Try.f14 [1, 1, 0, 1, 0, 0, 1, 0, 0, 1, 1, 0, 1, 0]) (Exit.inBlock 2 Q) { tmps := #[.slice (some ⟨eb, off, none⟩) len cap, v1, v2, v3, .int .i64 i, .pointer (some ⟨bt, 0, none⟩), .int .i64 ((i : Int) + 1), v7, v8, v9, v10, v11, v12, v13, v14, v15, v16, v17, v18, v19, v20, v21, v22, v23, v24, v25, v26, v27, v28, v29, v30, v31, v32, v33, v34, v35, v36, v37, v38, v39, v40, v41, v42, v43, v44, v45, v46, v47, v48, v49, v50, v51, v52, v53, v54, v55, v56, v57, v58, v59, v60, v61, v62, v63, v64, v65, v66, v67, v68, v69, v70, v71, v72, v73, v74, v75, v76, v77, v78, v79, v80, v81, v82, v83, v84, v85, v86, v87, v88, v89, v90, v91, v92, v93, v94, v95, v96, v97, v98, v99, v100, v101, v102, v103, v104, v105, v106, v107, v108, v109, v110, v111, v112, v113, v114, v115, v116, v117, v118, v119, v120, v121, v122, v123, v124, v125, v126, v127, v128, v129, v130, v131, v132, v133, v134, v135, v136, v137, v138, v139, v140, v141, v142, v143, v144, v145, v146, v147, v148, v149, v150, v151, v152, v153, v154, v155, v156, v157, v158, v159, v160, v161, v162, v163, v164, v165, v166, v167, v168, v169, v170, v171], defers := [] } w := by
  dsimp only
  conv => arg 2; whnf
  have HL := Lib.hid hl
  have HR := Lib.hid hr
  have W1 := Lib.hid h1
  have INI := Lib.hid (show trAt e i (i + 1) = init i (e i) from trAt_init e i (i + 1) (Nat.le_refl _))
  have hlen' : (len : Int) ≤ 10000 := by omega
  have HJ := Lib.hid hJ
  clear hl hr h1 hJ
  go_loopw [6] (fun kv wr => ∃ (k : Nat) (v : Value) (L2 : Blks), i + 1 ≤ k ∧ k ≤ len ∧ kv = .int .i64 k ∧ Hid (Row accC 6 59 (trAt e i k).ac v L2) ∧ Hid (base.Own u0 wr ((bt, 32, trC (trAt e i k) v) :: L2))) (fun kv _ => (len - intOf kv).toNat)
  case atStart => exact ⟨i + 1, .slice none 0 0, [], by omega, by omega, by go_num, by rw [INI.out]; exact Row.nil, by rw [INI.out]; exact HO⟩
  case round =>
    obtain ⟨k, v, L2, hk1, hk2, rfl, HRA, HOW⟩ := hrel
    obtain ⟨T, hT⟩ : ∃ T, T = trAt e i k := ⟨_, rfl⟩
    rw [← hT] at HRA HOW
    obtain ⟨va, vc, rfl⟩ := HRA.out.slice
    have hac0 : T.ac.length ≤ k := by rw [hT]; exact trAt_ac e i k
    have hk3 : (k : Int) < 1000000 := by omega
    have hac4 : T.ac.length ≤ 10000 := by omega
    have HT := Lib.hid hT
    clear hT
    have t0 := HOW.out.cell 0 0 rfl rfl; have t1 := HOW.out.cell 0 1 rfl rfl; have t2 := HOW.out.cell 0 2 rfl rfl; have t3 := HOW.out.cell 0 3 rfl rfl; have t4 := HOW.out.cell 0 4 rfl rfl; have t5 := HOW.out.cell 0 5 rfl rfl; have t6 := HOW.out.cell 0 6 rfl rfl; have t7 := HOW.out.cell 0 7 rfl rfl; have t8 := HOW.out.cell 0 8 rfl rfl
    by_cases hkl : k < len
    · have hkl' : (k : Int) < (len : Int) := by omega
      by_cases hen : T.en < 0
      · have fen : decide (T.en < 0) = true := by simpa using hen
        have STEP := Lib.hid (show trAt e i (k + 1) = if ownE (e i) (e k) = true then base.stepT T k (e k) else T by rw [HT.out]; exact doc_step e HR.out W1.out (by omega) hkl (by rw [← HT.out]; exact hen))
        have OE := Lib.hid (HOW.out.alloc 36 [.int .i64 ((e k).k), .int .i64 ((e k).th), .int .i64 ((e k).tx), .int .i64 ((e k).at_), .int .i64 ((e k).ob), .int .i64 ((e k).va), .int .i64 ((e k).re)])
        obtain ⟨c0, c1, c2, c3, c4, c5, c6⟩ := evsIn (HL.out.grown HOW.out.grow) hkl
        have heb : eb < wr.heap.size := World.block_lt_of_cell? wr _ c0
        go_upto_region 11 with fail
        generalize wr.alloc (.cells #[.int .i64 ((e k).k), .int .i64 ((e k).th), .int .i64 ((e k).tx), .int .i64 ((e k).at_), .int .i64 ((e k).ob), .int .i64 ((e k).va), .int .i64 ((e k).re)] 36) = v1 at *
        generalize wr.heap.size = be at *
        clear c0 c1 c2 c3 c4 c5 c6 t0 t1 t2 t3 t4 t5 t6 t7 t8 fen heb
        cases hq : ownE (e i) (e k) with
        | false =>
          have HS := Lib.hid (show trAt e i (k + 1) = T by rw [STEP.out, hq, if_neg (by simp)])
          refine wp_pcs (c' := pcs Try.f14 [1, 1, 0, 1, 0, 0, 1, 0, 0, 1, 1, 0, 1, 0, 0, 1, 0, 0, 1, 0, 0]) (by kernel_rfl) ?_
          refine piece11 _ eb off len cap i be (e i) (e k) false true hq rfl hlt hlen (evsIn (HL.out.grown OE.out.grow) hlt) (OE.out.get 0 rfl) ?_
          intro _ _ _ _ _ _ u3 g3
          dsimp only
          clear hq
          go_wp2
          go_roundw
          case rel => exact ⟨k + 1, .slice va T.ac.length vc, L2, by omega, by omega, by go_num, by rw [HS.out]; exact HRA.out, by rw [HS.out]; exact (OE.out.grown g3.out).drop (List.Sublist.cons _ (List.Sublist.refl _))⟩
          case measure => simp [intOf] <;> omega
        | true =>
          have HN := Lib.hid (show trAt e i (k + 1) = base.stepT T k (e k) by rw [STEP.out, hq, if_pos rfl])
          refine wp_pcs (c' := pcs Try.f14 [1, 1, 0, 1, 0, 0, 1, 0, 0, 1, 1, 0, 1, 0, 0, 1, 0, 0, 1, 0, 0]) (by kernel_rfl) ?_
          refine piece11 _ eb off len cap i be (e i) (e k) true false hq rfl hlt hlen (evsIn (HL.out.grown OE.out.grow) hlt) (OE.out.get 0 rfl) ?_
          intro _ _ _ _ _ _ u3 g3
          dsimp only
          have O3 := Lib.hid (OE.out.grown g3.out)
          clear OE STEP g3 hq
          have n0 := O3.out.cell 0 0 rfl rfl; have n1 := O3.out.cell 0 1 rfl rfl; have n2 := O3.out.cell 0 2 rfl rfl; have n3 := O3.out.cell 0 3 rfl rfl; have n4 := O3.out.cell 0 4 rfl rfl; have n5 := O3.out.cell 0 5 rfl rfl; have n6 := O3.out.cell 0 6 rfl rfl; have b0 := O3.out.cell 1 0 rfl rfl; have b1 := O3.out.cell 1 1 rfl rfl; have b2 := O3.out.cell 1 2 rfl rfl; have b3 := O3.out.cell 1 3 rfl rfl; have b4 := O3.out.cell 1 4 rfl rfl; have b5 := O3.out.cell 1 5 rfl rfl; have b6 := O3.out.cell 1 6 rfl rfl; have b7 := O3.out.cell 1 7 rfl rfl; have b8 := O3.out.cell 1 8 rfl rfl; have f0 := O3.out.free 1 0 rfl; have f1 := O3.out.free 1 1 rfl; have f2 := O3.out.free 1 2 rfl; have f3 := O3.out.free 1 3 rfl; have f4 := O3.out.free 1 4 rfl; have f5 := O3.out.free 1 5 rfl; have f6 := O3.out.free 1 6 rfl; have f7 := O3.out.free 1 7 rfl; have f8 := O3.out.free 1 8 rfl
          by_cases h2 : (e k).k = 2
          · have f2 : ((e k).k == 2) = true := by simp [h2]
            have HS := Lib.hid (show trAt e i (k + 1) = { T with ac := T.ac ++ [⟨k, (e k).k, (e k).ob, (e k).va, true && wrote T.ac (e k).ob, false⟩] } by rw [HN.out, stepT_2 _ _ h2, h2, Bool.true_and])
            clear h2
            have OA := Lib.hid (O3.out.alloc 59 [.int .i64 k, .int .i64 ((e k).k), .int .i64 ((e k).ob), .int .i64 ((e k).va), .bool false, .bool false])
            go_upto_region 16 with fail
            generalize u3.alloc (.cells #[.int .i64 k, .int .i64 ((e k).k), .int .i64 ((e k).ob), .int .i64 ((e k).va), .bool false, .bool false] 59) = v4 at *
            generalize u3.heap.size = ba at *
            go_wp2
            refine wp_pcs (c' := pcs Try.f14 [1, 1, 0, 1, 0, 0, 1, 0, 0, 1, 1, 0, 1, 0, 0, 1, 0, 0, 1, 1, 1, 0, 1, 0, 1, 0, 1, 0]) (by kernel_rfl) ?_
            refine piece3 _ u0 bt be ba k T (e k) va vc L2 true (by simpa using f2) hac4 HRA OA ?_
            intro _ _ _ _ _ _ _ _ _ _ _ _ _ _ _ _ _ _ _ _ _ _ _ _ _ _ _ _ _ _ _ _ _ _ _ _ w4 O4
            dsimp only
            go_upto_region 20 with fail
            refine wp_pcs (c' := pcs Try.f14 [1, 1, 0, 1, 0, 0, 1, 0, 0, 1, 1, 0, 1, 0, 0, 1, 0, 0, 1, 1, 1, 0, 1, 0, 1, 1]) (by kernel_rfl) ?_
            refine piece20 _ u0 bt be ba k T (e k) (true && wrote T.ac (e k).ob) va vc L2 hac4 HRA O4 ?_
            intro _ _ _ _ _ _ g' c' L3 w5 R5 O5
            dsimp only
            go_wp2
            go_roundw
            case rel => exact ⟨k + 1, (.slice (some ⟨g', 0, none⟩) (T.ac.length + 1) c'), L3, by omega, by omega, by go_num, by rw [HS.out]; exact R5.out, by rw [HS.out]; exact O5.out.drop (List.Sublist.cons _ (List.Sublist.cons _ (List.Sublist.refl _)))⟩
            case measure => simp [intOf] <;> omega
          · have f2 : ((e k).k == 2) = false := by simp [h2]
            by_cases h3 : (e k).k = 3
            · have f3 : ((e k).k == 3) = true := by simp [h3]
              have HS := Lib.hid (show trAt e i (k + 1) = { T with ac := T.ac ++ [⟨k, (e k).k, (e k).ob, (e k).va, false && wrote T.ac (e k).ob, false⟩] } by rw [HN.out, stepT_3 _ _ h3, h3, Bool.false_and])
              clear h2 h3
              have OA := Lib.hid (O3.out.alloc 59 [.int .i64 k, .int .i64 ((e k).k), .int .i64 ((e k).ob), .int .i64 ((e k).va), .bool false, .bool false])
              go_upto_region 16 with fail
              generalize u3.alloc (.cells #[.int .i64 k, .int .i64 ((e k).k), .int .i64 ((e k).ob), .int .i64 ((e k).va), .bool false, .bool false] 59) = v4 at *
              generalize u3.heap.size = ba at *
              go_wp2
              refine wp_pcs (c' := pcs Try.f14 [1, 1, 0, 1, 0, 0, 1, 0, 0, 1, 1, 0, 1, 0, 0, 1, 0, 0, 1, 1, 1, 0, 1, 0, 1, 0, 1, 0]) (by kernel_rfl) ?_
              refine piece3 _ u0 bt be ba k T (e k) va vc L2 false (by simpa using f2) hac4 HRA OA ?_
              intro _ _ _ _ _ _ _ _ _ _ _ _ _ _ _ _ _ _ _ _ _ _ _ _ _ _ _ _ _ _ _ _ _ _ _ _ w4 O4
              dsimp only
              go_upto_region 20 with fail
              refine wp_pcs (c' := pcs Try.f14 [1, 1, 0, 1, 0, 0, 1, 0, 0, 1, 1, 0, 1, 0, 0, 1, 0, 0, 1, 1, 1, 0, 1, 0, 1, 1]) (by kernel_rfl) ?_
              refine piece20 _ u0 bt be ba k T (e k) (false && wrote T.ac (e k).ob) va vc L2 hac4 HRA O4 ?_
              intro _ _ _ _ _ _ g' c' L3 w5 R5 O5
              dsimp only
              go_wp2
              go_roundw
              case rel => exact ⟨k + 1, (.slice (some ⟨g', 0, none⟩) (T.ac.length + 1) c'), L3, by omega, by omega, by go_num, by rw [HS.out]; exact R5.out, by rw [HS.out]; exact O5.out.drop (List.Sublist.cons _ (List.Sublist.cons _ (List.Sublist.refl _)))⟩
              case measure => simp [intOf] <;> omega
            · have f3 : ((e k).k == 3) = false := by simp [h3]
              by_cases h4 : (e k).k = 4
              · have f4 : ((e k).k == 4) = true := by simp [h4]
                have HS := Lib.hid (show trAt e i (k + 1) = { T with ac := relAll T.ac (e k).ob } by rw [HN.out, stepT_4 _ _ h4])
                clear h2 h3 h4
                go_wp2
                refine wp_pcs (c' := pcs Try.f14 [1, 1, 0, 1, 0, 0, 1, 0, 0, 1, 1, 0, 1, 0, 0, 1, 0, 0, 1, 1, 1, 0, 1, 1, 1, 0, 1, 0]) (by kernel_rfl) ?_
                refine piece4 _ u0 bt be T (e k) va vc L2 hac4 HRA O3 ?_
                intro _ _ _ _ _ _ _ _ _ _ _ _ _ _ _ _ _ _ _ _ _ _ _ _ _ _ _ _ _ _ _ L4 w4 R4 O4
                dsimp only
                go_wp2
                go_roundw
                case rel => exact ⟨k + 1, (.slice va T.ac.length vc), L4, by omega, by omega, by go_num, by rw [HS.out]; exact R4.out, by rw [HS.out]; exact O4.out.drop (List.Sublist.cons _ (List.Sublist.refl _))⟩
                case measure => simp [intOf] <;> omega
              · have f4 : ((e k).k == 4) = false := by simp [h4]
                by_cases h5 : (e k).k = 5
                · have f5k : ((e k).k == 5) = true := by simp [h5]
                  have HS := Lib.hid (show trAt e i (k + 1) = { T with en := k, co := true } by rw [HN.out, stepT_5 _ _ h5])
                  clear h2 h3 h4 h5
                  go_wp2
                  go_roundw
                  case rel => exact ⟨k + 1, (.slice va T.ac.length vc), L2, by omega, by omega, by go_num, by rw [HS.out]; exact HRA.out, by rw [HS.out]; exact ((O3.out.set 1 5 (.int .i64 k) rfl).set 1 7 (.bool true) rfl).drop (List.Sublist.cons _ (List.Sublist.refl _))⟩
                  case measure => simp [intOf] <;> omega
                · have f5k : ((e k).k == 5) = false := by simp [h5]
                  by_cases h6 : (e k).k = 6
                  · have f6k : ((e k).k == 6) = true := by simp [h6]
                    have HS := Lib.hid (show trAt e i (k + 1) = { T with en := k, re := (e k).re } by rw [HN.out, stepT_6 _ _ h6])
                    clear h2 h3 h4 h5 h6
                    go_wp2
                    go_roundw
                    case rel => exact ⟨k + 1, (.slice va T.ac.length vc), L2, by omega, by omega, by go_num, by rw [HS.out]; exact HRA.out, by rw [HS.out]; exact ((O3.out.set 1 5 (.int .i64 k) rfl).set 1 6 (.int .i64 (e k).re) rfl).drop (List.Sublist.cons _ (List.Sublist.refl _))⟩
                    case measure => simp [intOf] <;> omega
                  · have f6k : ((e k).k == 6) = false := by simp [h6]
                    have HS := Lib.hid (show trAt e i (k + 1) = T by rw [HN.out, stepT_no _ _ h2 h3 h4 h5 h6])
                    clear h2 h3 h4 h5 h6
                    go_wp2
                    go_roundw
                    case rel => exact ⟨k + 1, (.slice va T.ac.length vc), L2, by omega, by omega, by go_num, by rw [HS.out]; exact HRA.out, by rw [HS.out]; exact O3.out.drop (List.Sublist.cons _ (List.Sublist.refl _))⟩
                    case measure => simp [intOf] <;> omega
      · have fen : decide (T.en < 0) = false := by simpa using hen
        have HF := Lib.hid (show trAt e i len = T by rw [HT.out]; exact trAt_end e i (by rw [← HT.out]; omega) (Nat.le_of_lt hkl))
        go_wp2
        have hJ := HJ.out
        rw [HF.out] at hJ
        exact hJ _ _ _ _ _ _ _ _ _ _ _ _ _ _ _ _ _ _ _ _ _ _ _ _ _ _ _ _ _ _ _ _ _ _ _ _ _ _ _ _ _ _ _ _ _ _ _ _ _ _ _ _ _ _ _ _ _ _ _ _ _ _ _ _ _ _ _ _ _ _ _ _ _ _ _ _ _ _ _ _ _ _ _ _ _ _ _ _ _ _ _ _ _ _ _ _ _ _ _ _ _ _ _ _ _ _ _ _ _ _ _ _ _ _ _ _ _ _ _ _ _ _ _ _ _ _ L2 _ HRA HOW
    · obtain rfl : k = len := by omega
      go_wp2
      have hJ := HJ.out
      rw [← HT.out] at hJ
      exact hJ _ _ _ _ _ _ _ _ _ _ _ _ _ _ _ _ _ _ _ _ _ _ _ _ _ _ _ _ _ _ _ _ _ _ _ _ _ _ _ _ _ _ _ _ _ _ _ _ _ _ _ _ _ _ _ _ _ _ _ _ _ _ _ _ _ _ _ _ _ _ _ _ _ _ _ _ _ _ _ _ _ _ _ _ _ _ _ _ _ _ _ _ _ _ _ _ _ _ _ _ _ _ _ _ _ _ _ _ _ _ _ _ _ _ _ _ _ _ _ _ _ _ _ _ _ _ L2 _ HRA HOW
end Go.Proofs.Ytgnakcahmmdncaa.hs
