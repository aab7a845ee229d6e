/- CellsActs: the way through the acts. -/
import Derived.Test.YticlmcoegcfanaaOpen
import Derived.Test.YticlmcoegcfanaaActsL
import Derived.Test.YticlmcoegcfanaaActsC
import Derived.Test.YticlmcoegcfanaaActsO
import Derived.Test.YticlmcoegcfanaaActsR
import Derived.Test.YticlmcoegcfanaaActsE
import Derived.Test.YticlmcoegcfanaaActsSW
import Derived.Deep.DeepCutAuto
import Derived.Deep.CutBlock
namespace Go.Proofs.Yticlmcoegcfanaa.cellsActs
open Go.ChangeShapes Go.WideShapes Go.ChangeAt Go.RowKit Go.Proofs.Yticlmcoegcfanaa.base Go.Proofs.Yticlmcoegcfanaa.ar Go.Proofs.Yticlmcoegcfanaa.ds Go.Proofs.Yticlmcoegcfanaa.mm Go.Proofs.Yticlmcoegcfanaa.rf Go.Proofs.Yticlmcoegcfanaa.vl Go.Proofs.Yticlmcoegcfanaa.ce Go.Proofs.Yticlmcoegcfanaa.acts
set_option linter.unusedVariables false

theorem wp_pcs {P : Program} {c c' : Code} {Q : Exit → Act → World → Prop} {a : Act} {w : World} (h : c = c') (hw : Code.wp P c' Q a w) : Code.wp P c Q a w := h ▸ hw

theorem ref_made (w : World) (N : Int) (base : Nat) (hb : base ≤ w.heap.size) : ∃ F, RefC base ((w.alloc (.map #[] 0)).alloc (.cells #[.int .i64 N, .slice none 0 0, .slice none 0 0, .map (some w.heap.size)] 37)) (w.heap.size + 1) w.heap.size N [] [] 0 (fun _ => none) F := by
  refine ⟨_, .slice none 0 0, none, ⟨by omega, by simp, .slice none 0 0, ?_, World.ownsRow_nil _ _ _ _, rfl⟩, World.ownsRow_nil _ _ _ _, by simp [Value.ownBlock], ?_, hb, rfl⟩
  · have := Blk.made (w.alloc (.map #[] 0)) 37 #[.int .i64 N, .slice none 0 0, .slice none 0 0, .map (some w.heap.size)]
    simpa using this
  · have := MapF.made w Try.prog 3
    exact MapF.keep this (Below.heap_alloc _ _ _ (by simp))

/-- At the head of a round. -/
def Rel (w : World) (b0 b1 cb tb ab vb sb : Nat) (N : Int) (L len : Nat) (i : Value) (wr : World) : Prop :=
  ∃ (k : Nat) (rs : List Rc) (hd : List Int) (m : Nat) (is : Int → Bool) (num : Int → Nat → Int) (B : Int) (m2 : Nat) (st : Int → Option Int) (F G : Nat → Prop), k ≤ len ∧ i = .int .i64 k ∧ (0 ≤ B ∧ B ≤ 10000 + 1000 * k) ∧ m2 ≤ k ∧
    Cel b0 wr cb tb ab N rs hd m is num B F ∧ RefC b1 wr vb sb N rs hd m2 st G ∧ Sep F G ∧ Inv N L rs hd m is num st ∧ Below w.heap.size w wr

set_option maxRecDepth 100000 in
set_option maxHeartbeats 8000000 in
theorem walkIn (a0 : Int) (a1 : Option Addr) (len1 cap1 : Nat) (z1 : Nat → Int) (a2 : Option Addr) (len2 cap2 : Nat) (z2 : Nat → Nat → Int) (w : World) (w0 : (Lit.int .u8 a0).wf = true) (w1 : IsRow .i64 w a1 len1 cap1 z1) (w2 : IsInts 5 w a2 len2 cap2 z2) (h2 : ¬ 100 < (len2 : Int)) (N : Int) (hN : N = 1 + a0.tmod 64) (hl1 : 1 ≤ (len1 : Int)) (hl8 : (len1 : Int) ≤ 8) (hfit : 2 * (len1 : Int) ≤ N) :
    Calls Try.prog 3 #[.int .u8 a0, .slice a1 len1 cap1, .slice a2 len2 cap2] w fun e w' => e = .returned (.bool true) ∧ Below w.heap.size w w' := by
  have W1 := Lib.hid w1
  have W2 := Lib.hid w2
  have hmm := @run_makeMap Try.prog
  have hcv : IntKind.i64.wrap a0 = a0 := IntWalk.i64_in _ (by have := bounds_u8 w0; omega)
  have htb : 0 ≤ a0.tmod 64 ∧ a0.tmod 64 < 64 := ⟨Int.tmod_nonneg _ (by have := bounds_u8 w0; omega), Int.tmod_lt_of_pos _ (by omega)⟩
  have hN1 : 1 ≤ N ∧ N ≤ 64 := by omega
  have hnw : wrap64 (1 + a0.tmod 64) = N := by rw [hN]; unfold wrap64; omega
  clear w0 w1 w2 hN htb
  go_enter Try.func3, Try.ntmps3
  go_wp2_with fail
  refine (alive_any _).mono ?_
  rintro e v1 ⟨rfl, B1⟩
  go_wp2_with fail
  refine (made_ok N (by omega) _ len1 cap1 z1 v1 (W1.out.below B1.out) (by omega) (by omega) (by omega)).mono ?_
  rintro e v2 ⟨ab, tb, cb, F2, rfl, C2, g2⟩
  have B2 := Lib.hid (bl_none B1.out g2.out)
  have hb0 : Hid (w.heap.size ≤ v1.heap.size) := B1.out.size
  generalize v1.heap.size = b0 at *
  clear B1 g2
  have hne : ((len1 : Int) != 0) = true := by simp; omega
  go_wp2_with fail
  refine (cells_objects b0 cb tb ab 0 N _ _ _ _ _ F2 v2 C2.out (by omega) (by omega)).mono ?_
  rw [heads_length]
  rintro e v3 ⟨rfl, C3, S3⟩
  have B3 := Lib.hid (C2.out.low S3.out B2.out hb0.out)
  clear C2 S3 B2
  obtain ⟨G0, R0⟩ := ref_made v3 N v3.heap.size (Nat.le_refl _)
  have g3 : v3.grownBy ((v3.alloc (.map #[] 0)).alloc (.cells #[.int .i64 N, .slice none 0 0, .slice none 0 0, .map (some v3.heap.size)] 37)) none := gb_alloc (gb_alloc (gb_refl _ _) _) _
  have hsz : v3.heap.size ≤ ((v3.alloc (.map #[] 0)).alloc (.cells #[.int .i64 N, .slice none 0 0, .slice none 0 0, .map (some v3.heap.size)] 37)).heap.size := g3.size
  have SP0 : Sep F2 G0 := fun k hf hg => by have := (C3.out.foot k hf).2; have := (R0.foot k hg).1; omega
  have HR0 := Lib.hid R0
  have C4 := Lib.hid (C3.out.grown g3)
  have B4 := Lib.hid (bl_none B3.out g3)
  have HSP := Lib.hid SP0
  have hsz' := Lib.hid hsz
  have hb1w : Hid (w.heap.size ≤ v3.heap.size) := B3.out.size
  have hb01 : Hid (b0 ≤ v3.heap.size) := C3.out.base_size
  clear C3 B3 R0 SP0 g3 hsz
  go_wp2_with fail
  refine (ref_start v3.heap.size (v3.heap.size + 1) v3.heap.size N 0 (fun _ => none) G0 _ HR0.out hsz'.out a1 len1 cap1 z1 (W1.out.below B4.out) (fun b off e => by
    obtain ⟨_, _, q3⟩ := W1.out
    rcases q3 with q3 | ⟨b', off', e', hb, _⟩
    · omega
    · rw [e'] at e
      cases e
      have := hb1w.out
      omega) hfit (by omega)).mono ?_
  rintro e v5 ⟨G5, rfl, R5, T5⟩
  have C5 := Lib.hid (C4.out.only T5.out.only HSP.out)
  have SP5 := Lib.hid ((HSP.out.symm.step T5.out (fun k hk => (C4.out.foot k hk).2)).symm)
  have B5 := Lib.hid (T5.out.low B4.out (by have := hsz'.out; have := hb1w.out; omega) (fun i hi => by have := (HR0.out.foot i hi).1; have := hb1w.out; omega))
  have I5 := Lib.hid (Inv.start z1 hfit)
  generalize hvb : v3.heap.size + 1 = vb at *
  generalize v3.heap.size = b1 at *
  clear C4 HR0 HSP B4 T5 hsz' hvb
  go_wp2_with fail
  go_loopw [14] (fun i wr => Rel w b0 b1 cb tb ab vb b1 N len1 len2 i wr) (fun i _ => (len2 - intOf i).toNat)
  case atStart => exact ⟨0, _, _, 0, _, _, _, 0, _, F2, G5, by omega, rfl, by omega, by omega, C5.out, R5.out, SP5.out, I5.out, B5.out⟩
  case round =>
    clear C5 R5 SP5 I5 B5
    obtain ⟨k, rs, hd, m, is, num, B, m2, st, F, G, hk, rfl, hA0, hm20, C0, R0, SP0, I0, BB0⟩ := hrel
    have C := Lib.hid C0
    have R := Lib.hid R0
    have SP := Lib.hid SP0
    have I := Lib.hid I0
    have BB := Lib.hid BB0
    have hA := Lib.hid hA0
    have hm2 := Lib.hid hm20
    clear C0 R0 SP0 I0 BB0 hA0 hm20
    by_cases hlt : k < len2
    · obtain ⟨_, _, h | ⟨b2, off2, rfl, hb2, hz⟩⟩ := W2.out
      · exfalso; omega
      have hz2 := Lib.hid hz
      have q0 : wr.cell? ⟨b2, off2 + k * 5, none⟩ = some (.int .i64 (z2 k 0)) := (BB.out.cell (p := ⟨b2, off2 + (k * 5 + 0), none⟩) hb2).trans (hz k 0 hlt (by omega)).1
      have q1 : wr.cell? ⟨b2, off2 + k * 5 + 1, none⟩ = some (.int .i64 (z2 k 1)) := (BB.out.cell (p := ⟨b2, off2 + (k * 5 + 1), none⟩) hb2).trans (hz k 1 hlt (by omega)).1
      have q2 : wr.cell? ⟨b2, off2 + k * 5 + 2, none⟩ = some (.int .i64 (z2 k 2)) := (BB.out.cell (p := ⟨b2, off2 + (k * 5 + 2), none⟩) hb2).trans (hz k 2 hlt (by omega)).1
      have q3 : wr.cell? ⟨b2, off2 + k * 5 + 3, none⟩ = some (.int .i64 (z2 k 3)) := (BB.out.cell (p := ⟨b2, off2 + (k * 5 + 3), none⟩) hb2).trans (hz k 3 hlt (by omega)).1
      have q4 : wr.cell? ⟨b2, off2 + k * 5 + 4, none⟩ = some (.int .i64 (z2 k 4)) := (BB.out.cell (p := ⟨b2, off2 + (k * 5 + 4), none⟩) hb2).trans (hz k 4 hlt (by omega)).1
      have hwA := Lib.hid (hz k 1 hlt (by omega)).2
      have hwB := Lib.hid (hz k 2 hlt (by omega)).2
      have hwC := Lib.hid (hz k 3 hlt (by omega)).2
      have hlt' : (k : Int) < (len2 : Int) := by omega
      have lq := World.block_lt_of_cell? _ _ q0
      clear hz
      generalize z2 k 0 = K at *
      generalize z2 k 1 = A at *
      generalize z2 k 2 = Bb at *
      generalize z2 k 3 = Cc at *
      generalize z2 k 4 = V at *
      go_upto_block 2 with fail
      have hq : wr.heap.size = wr.heap.size := rfl
      have X1 : Blk 40 (wr.alloc (.cells #[.int .i64 K, .int .i64 A, .int .i64 Bb, .int .i64 Cc, .int .i64 V] 40)) wr.heap.size #[.int .i64 K, .int .i64 A, .int .i64 Bb, .int .i64 Cc, .int .i64 V] := Blk.made _ _ _
      have gA : wr.grownBy (wr.alloc (.cells #[.int .i64 K, .int .i64 A, .int .i64 Bb, .int .i64 Cc, .int .i64 V] 40)) none := gb_alloc (gb_refl _ _) _
      have nFq := Lib.hid (show ¬ F wr.heap.size from fun e => by have := (C.out.foot _ e).2; omega)
      have nGq := Lib.hid (show ¬ G wr.heap.size from fun e => by have := (R.out.foot _ e).2; omega)
      have C1 := Lib.hid (C.out.grown gA)
      have R1 := Lib.hid (R.out.grown gA)
      have BB1 := Lib.hid (bl_none BB.out gA)
      have XX := Lib.hid X1
      have x0 := X1.cell 0
      have x1 := X1.cell 1
      have x2 := X1.cell 2
      have x3 := X1.cell 3
      have x4 := X1.cell 4
      have lx := X1.lt
      clear C R BB gA X1 q0 q1 q2 q3 q4 lq hq hb2 hlt
      generalize (wr.alloc (.cells #[.int .i64 K, .int .i64 A, .int .i64 Bb, .int .i64 Cc, .int .i64 V] 40)) = u at *
      generalize wr.heap.size = q at *
      go_cut [] (fun wx => Mid w b0 b1 cb tb ab vb b1 N len1 B m2 q K A Bb Cc V wx)
      case rest =>
        clear C1 R1 BB1 XX x0 x1 x2 x3 x4 lx nFq nGq I SP
        go_upto_region 58 with fail
        refine wp_pcs (c' := pcs Try.f3 [1, 1, 1, 1, 1, 1, 1, 1, 1, 1, 1, 0, 1, 0, 0, 1, 0, 0, 1, 1, 0]) (by kernel_rfl) ?_
        have hA9 : Hid (0 ≤ B ∧ B ≤ 800000) := ⟨hA.out.1, by have := hA.out; omega⟩
        have hL9 : len1 ≤ 8 := by omega
        have hL10 : 1 ≤ len1 := by omega
        refine rest58 (M := hcut) (hA := hA9) (hN1 := hN1) (hL := hL9) (hL1 := hL10) (hb0 := hb0) (hJ := ?_) (Q := _) (v349 := _) (v350 := _) (v351 := _) (v352 := _) (v353 := _) (v354 := _) (v355 := _) (v356 := _) (v357 := _) (v358 := _) (v359 := _) (v360 := _) (v361 := _) (v362 := _) (v363 := _) (v364 := _)
        as_aux_lemma =>
          intro a' w' hinv
          obtain ⟨u349, hinv⟩ := hinv
          obtain ⟨u350, hinv⟩ := hinv
          obtain ⟨u351, hinv⟩ := hinv
          obtain ⟨u352, hinv⟩ := hinv
          obtain ⟨u353, hinv⟩ := hinv
          obtain ⟨u354, hinv⟩ := hinv
          obtain ⟨u355, hinv⟩ := hinv
          obtain ⟨u356, hinv⟩ := hinv
          obtain ⟨u357, hinv⟩ := hinv
          obtain ⟨u358, hinv⟩ := hinv
          obtain ⟨u359, hinv⟩ := hinv
          obtain ⟨u360, hinv⟩ := hinv
          obtain ⟨u361, hinv⟩ := hinv
          obtain ⟨u362, hinv⟩ := hinv
          obtain ⟨u363, hinv⟩ := hinv
          obtain ⟨hcut2, ha⟩ := hinv
          subst ha
          clear hcut
          obtain ⟨rs, hd, m, is, num, B', m2', st, F, G, hB', hm2', C0, R0, SP0, I0, BB0⟩ := hcut2
          have hB2 := Lib.hid hB'
          have hm3 := Lib.hid hm2'
          have C := Lib.hid C0
          have R := Lib.hid R0
          have SP9 := Lib.hid SP0
          have I9 := Lib.hid I0
          have BB9 := Lib.hid BB0
          clear hB' hm2' C0 R0 SP0 I0 BB0
          dsimp only
          go_wp2
          go_roundw
          case rel => exact ⟨k + 1, rs, hd, m, is, num, B', m2', st, F, G, by omega, by go_num, by have := hB2.out; have := hA.out; omega, by have := hm3.out; have := hm2.out; omega, C.out, R.out, SP9.out, I9.out, BB9.out⟩
          case measure => simp [intOf]; omega
      case first =>
        have H : Hid (Bt w b0 b1 cb tb ab vb b1 N q #[.int .i64 K, .int .i64 A, .int .i64 Bb, .int .i64 Cc, .int .i64 V] u rs hd m is num B F rs hd m2 st G) := ⟨C1.out, R1.out, SP.out, hb0.out, hb1w.out, BB1.out, XX.out, nFq.out, nGq.out⟩
        have hlenI := Lib.hid I.out.len
        have hA9 : Hid (0 ≤ B ∧ B ≤ 800000) := ⟨hA.out.1, by have := hA.out; omega⟩
        have hL9 : len1 ≤ 8 := by omega
        have hm9 : Hid (m2 ≤ 1000) := Nat.le_trans hm2.out (by omega)
        clear C1 R1 SP BB1 XX nFq nGq x0 x1 x2 x3 x4 lx
        rename_i JJ KK hJJ hKK
        have hJ2 := fun (a' : Act) (w' : World) h => hKK a' w' (Met.intro (hJJ a' w' h))
        clear hJJ hKK
        refine wp_pcs (c' := pcs Try.f3 [1, 1, 1, 1, 1, 1, 1, 1, 1, 1, 1, 0, 1, 0, 0, 1, 0, 0, 1, 0, 1]) (by kernel_rfl) ?_
        refine swAll2 (H := H) (I := I) (hA := hA9) (hN1 := hN1) (hL := hL9) (hm2 := hm9) (hwA := hwA) (hwB := hwB) (hwC := hwC) (hJ := hJ2) (hC := ?_) (hR := ?_) (Q := _) (v6 := _) (v16 := _) (v17 := _) (v18 := _) (v19 := _) (v20 := _) (v21 := _) (v22 := _) (v23 := _) (v24 := _) (v25 := _) (v26 := _) (v90 := _) (v91 := _) (v92 := _) (v93 := _) (v94 := _) (v95 := _) (v96 := _) (v97 := _) (v98 := _) (v99 := _) (v100 := _) (v102 := _) (v103 := _) (v104 := _) (v105 := _) (v106 := _) (v107 := _) (v108 := _) (v109 := _) (v110 := _) (v111 := _) (v112 := _) (v113 := _) (v114 := _) (v115 := _) (v116 := _) (v117 := _) (v118 := _) (v119 := _) (v120 := _) (v121 := _) (v122 := _) (v123 := _) (v124 := _) (v125 := _) (v126 := _) (v127 := _) (v128 := _) (v129 := _) (v130 := _) (v131 := _) (v132 := _) (v133 := _) (v134 := _) (v135 := _) (v136 := _) (v137 := _) (v138 := _) (v139 := _) (v140 := _) (v141 := _) (v142 := _) (v143 := _) (v144 := _) (v145 := _) (v146 := _) (v147 := _) (v148 := _) (v149 := _) (v150 := _) (v151 := _) (v152 := _) (v153 := _) (v154 := _) (v155 := _) (v156 := _) (v157 := _) (v158 := _) (v159 := _) (v160 := _) (v161 := _) (v162 := _) (v163 := _) (v164 := _) (v165 := _) (v166 := _) (v167 := _) (v168 := _) (v169 := _) (v170 := _) (v171 := _) (v172 := _) (v173 := _) (v174 := _) (v175 := _) (v176 := _) (v177 := _) (v178 := _) (v179 := _) (v180 := _) (v181 := _) (v182 := _) (v183 := _) (v184 := _) (v185 := _) (v186 := _) (v187 := _) (v188 := _) (v189 := _) (v190 := _) (v191 := _) (v192 := _) (v193 := _) (v194 := _) (v195 := _) (v196 := _) (v197 := _) (v198 := _) (v199 := _) (v200 := _) (v201 := _) (v202 := _) (v203 := _) (v204 := _) (v205 := _) (v206 := _) (v207 := _) (v208 := _) (v209 := _) (v210 := _) (v211 := _) (v212 := _) (v213 := _) (v214 := _) (v215 := _) (v216 := _) (v217 := _) (v218 := _) (v219 := _) (v220 := _) (v221 := _) (v222 := _) (v223 := _) (v224 := _) (v225 := _) (v226 := _) (v227 := _) (v228 := _) (v229 := _) (v230 := _) (v231 := _) (v232 := _) (v233 := _) (v234 := _) (v235 := _) (v236 := _) (v237 := _) (v238 := _) (v239 := _) (v240 := _) (v241 := _) (v242 := _) (v243 := _) (v244 := _) (v245 := _) (v246 := _) (v247 := _) (v248 := _) (v249 := _) (v250 := _) (v251 := _) (v252 := _) (v253 := _) (v254 := _) (v255 := _) (v256 := _) (v257 := _) (v258 := _) (v259 := _) (v260 := _) (v261 := _) (v262 := _) (v263 := _) (v264 := _) (v265 := _) (v266 := _) (v267 := _) (v268 := _) (v269 := _) (v270 := _) (v271 := _) (v272 := _) (v273 := _) (v274 := _) (v275 := _) (v276 := _) (v277 := _) (v278 := _) (v279 := _) (v280 := _) (v281 := _) (v282 := _) (v283 := _) (v284 := _) (v285 := _) (v286 := _) (v287 := _) (v288 := _) (v289 := _) (v290 := _) (v291 := _) (v292 := _) (v293 := _) (v294 := _) (v295 := _) (v296 := _) (v297 := _) (v298 := _) (v299 := _) (v300 := _) (v301 := _) (v302 := _) (v303 := _) (v304 := _) (v305 := _) (v306 := _) (v307 := _) (v308 := _) (v309 := _) (v310 := _) (v311 := _) (v312 := _) (v313 := _) (v314 := _) (v315 := _) (v316 := _) (v317 := _) (v318 := _) (v319 := _) (v320 := _) (v321 := _) (v322 := _) (v323 := _) (v324 := _) (v325 := _) (v326 := _) (v327 := _) (v328 := _) (v329 := _) (v330 := _) (v331 := _) (v332 := _) (v333 := _) (v334 := _) (v335 := _) (v336 := _) (v337 := _) (v338 := _) (v339 := _) (v340 := _) (v341 := _) (v342 := _) (v343 := _) (v344 := _) (v345 := _) (v346 := _) (v347 := _) (v348 := _) (v349 := _) (v350 := _) (v351 := _) (v352 := _) (v353 := _) (v354 := _) (v355 := _) (v356 := _) (v357 := _) (v358 := _) (v359 := _) (v360 := _) (v361 := _) (v362 := _) (v363 := _) (v364 := _)
        · as_aux_lemma =>
            intros
            rename_i w' hcut
            obtain ⟨rs, hd, m, is, num, B', m2', st, F, G, hB', hm2', C0, R0, SP0, I0, BB0, X0, nF0, nG0⟩ := hcut
            have hB2 := Lib.hid hB'
            have hm3 := Lib.hid hm2'
            have C := Lib.hid C0
            have R := Lib.hid R0
            have SP9 := Lib.hid SP0
            have I9 := Lib.hid I0
            have BB9 := Lib.hid BB0
            clear hB' hm2' C0 R0 SP0 I0 BB0 X0 nF0 nG0 H hJ2
            dsimp only
            simp only [Exit.inBlock, Exit.then, ↓reduceIte]
            go_wp2
            go_roundw
            case rel => exact ⟨k + 1, rs, hd, m, is, num, B', m2', st, F, G, by omega, by go_num, by have := hB2.out; have := hA.out; omega, by have := hm3.out; have := hm2.out; omega, C.out, R.out, SP9.out, I9.out, BB9.out⟩
            case measure => simp [intOf]; omega
        · intros
          rename_i w9 hbl
          clear H hJ2
          dsimp +zetaDelta only [Exit.inBlock, Exit.then]
          go_ret
          exact ⟨rfl, hbl⟩
    · have hge : ¬ (k : Int) < (len2 : Int) := by omega
      clear hlt W1 W2
      go_upto_region 60 with fail
      refine wp_pcs (c' := pcs Try.f3 [1, 1, 1, 1, 1, 1, 1, 1, 1, 1, 1, 1, 0]) (by kernel_rfl) ?_
      have hA9 : Hid (0 ≤ B ∧ B ≤ 800000) := ⟨hA.out.1, by have := hA.out; omega⟩
      have hL9 : len1 ≤ 8 := by omega
      have hL10 : 1 ≤ len1 := by omega
      refine exit60 (C := C) (R := R) (SP := SP) (I := I) (BB := BB) (hA := hA9) (hN1 := hN1) (hL := hL9) (hL1 := hL10) (hb0 := hb0) (hJ := ?_) (Q := _) (v6 := _) (v365 := _) (v366 := _) (v367 := _) (v368 := _) (v369 := _) (v370 := _) (v371 := _) (v372 := _) (v373 := _) (v374 := _) (v375 := _) (v376 := _) (v377 := _)
      intro a' w' hinv
      obtain ⟨u365, hinv⟩ := hinv
      obtain ⟨u366, hinv⟩ := hinv
      obtain ⟨u367, hinv⟩ := hinv
      obtain ⟨u368, hinv⟩ := hinv
      obtain ⟨u369, hinv⟩ := hinv
      obtain ⟨u370, hinv⟩ := hinv
      obtain ⟨u371, hinv⟩ := hinv
      obtain ⟨u372, hinv⟩ := hinv
      obtain ⟨u373, hinv⟩ := hinv
      obtain ⟨u374, hinv⟩ := hinv
      obtain ⟨u375, hinv⟩ := hinv
      obtain ⟨u376, hinv⟩ := hinv
      obtain ⟨u377, hinv⟩ := hinv
      obtain ⟨hbl, ha⟩ := hinv
      subst ha
      dsimp only
      go_wp2
      go_ret
      exact ⟨rfl, hbl⟩

end Go.Proofs.Yticlmcoegcfanaa.cellsActs
