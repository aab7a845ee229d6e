/-
  ScriptCut: what is right cut ahead of its picks is short, at its end, and with more bytes behind it has these as picks; for any script, any cut and any bytes.
  Conditions: none (of more than the law goes through, it says nothing by itself).
-/
import Derived.Test.YtinmhefkmjlelaaPz
import Derived.Test.YtinmhefkmjlelaaRows
import Derived.Deep.QuietTactic
import Derived.BigQuiet
namespace Go.Proofs.Ytinmhefkmjlelaa.scriptCut
open Go.ChangeShapes Go.WideShapes Go.ChangeAt Go.RowKit Go.Proofs.Ytinmhefkmjlelaa.base Go.Proofs.Ytinmhefkmjlelaa.lg Go.Proofs.Ytinmhefkmjlelaa.md Go.Proofs.Ytinmhefkmjlelaa.sc
set_option linter.unusedVariables false
set_option maxRecDepth 100000
set_option linter.unusedSimpArgs false

set_option maxHeartbeats 4000000 in
theorem walkIn (co ct cr ck cm cw : Int) (f d p : List Int) (A : List (List (List Op3))) (fa : Option Addr) (fc : Nat) (da : Option Addr) (dc : Nat) (aa : Option Addr) (ac : Nat) (pa : Option Addr) (pc : Nat) (a1 : Int) (a2 : Option Addr) (cap2 : Nat) (M : List Int) (w : World) (hs : ScrAt w ⟨⟨co, ct, cr, ck, cm, cw⟩, f, d, A, p⟩ (.slice fa f.length fc) (.slice da d.length dc) (.slice aa A.length ac) (.slice pa p.length pc)) (hd : Bytes d) (ha : 0 ≤ a1 ∧ a1 ≤ 65535) (hM : IsNums .u8 w a2 M.length (at0 M)) (hB : Bytes M) : Calls Try.prog 6 #[.agg #[.int .i64 co, .int .i64 ct, .int .i64 cr, .int .i64 ck, .int .i64 cm, .int .i64 cw, .slice fa f.length fc, .slice da d.length dc, .slice aa A.length ac, .slice pa p.length pc], .int .u16 a1, .slice a2 M.length cap2] w fun e w' => e = .returned (.bool true) ∧ Below w.heap.size w w' := by
  have HM := Lib.hid hM
  have HB := Lib.hid hB
  have HD := Lib.hid hd
  clear hM hB hd
  have O1 : Hid (Own w (w.alloc (.cells #[.int .i64 co, .int .i64 ct, .int .i64 cr, .int .i64 ck, .int .i64 cm, .int .i64 cw, .slice fa f.length fc, .slice da d.length dc, .slice aa A.length ac, .slice pa p.length pc] 34)) [(w.heap.size, 34, [.int .i64 co, .int .i64 ct, .int .i64 cr, .int .i64 ck, .int .i64 cm, .int .i64 cw, .slice fa f.length fc, .slice da d.length dc, .slice aa A.length ac, .slice pa p.length pc])]) := (Own.start w).alloc 34 [.int .i64 co, .int .i64 ct, .int .i64 cr, .int .i64 ck, .int .i64 cm, .int .i64 cw, .slice fa f.length fc, .slice da d.length dc, .slice aa A.length ac, .slice pa p.length pc]; have HS := Lib.hid hs; clear hs; go_enter Try.func6, Try.ntmps6; go_wp2_with fail; generalize w.alloc _ = v at *; (obtain ⟨sb, hsb⟩ : ∃ sb, sb = w.heap.size := ⟨_, rfl⟩); rw [← hsb] at O1 ⊢; have HSB := Lib.hid hsb; clear hsb; refine (alive_any v).mono ?_; rintro r u ⟨rfl, g⟩; have O2 := Lib.hid (O1.out.grown g.out); clear O1 g; have d0 := O2.out.cell 0 0 rfl rfl; have d1 := O2.out.cell 0 1 rfl rfl; have d2 := O2.out.cell 0 2 rfl rfl; have d3 := O2.out.cell 0 3 rfl rfl; have d4 := O2.out.cell 0 4 rfl rfl; have d5 := O2.out.cell 0 5 rfl rfl; have d6 := O2.out.cell 0 6 rfl rfl; have d7 := O2.out.cell 0 7 rfl rfl; have d8 := O2.out.cell 0 8 rfl rfl; have d9 := O2.out.cell 0 9 rfl rfl; go_wp2_with fail; refine (great_lit co ct cr ck cm cw f d p A fa fc da dc aa ac pa pc u (HS.out.grown O2.out.grow)).mono ?_; rintro r u2 ⟨rfl, g⟩; have O3 := Lib.hid (O2.out.grown g.out); clear O2 g; clear d0 d1 d2 d3 d4 d5 d6 d7 d8 d9; have d0 := O3.out.cell 0 0 rfl rfl; have d1 := O3.out.cell 0 1 rfl rfl; have d2 := O3.out.cell 0 2 rfl rfl; have d3 := O3.out.cell 0 3 rfl rfl; have d4 := O3.out.cell 0 4 rfl rfl; have d5 := O3.out.cell 0 5 rfl rfl; have d6 := O3.out.cell 0 6 rfl rfl; have d7 := O3.out.cell 0 7 rfl rfl; have d8 := O3.out.cell 0 8 rfl rfl; have d9 := O3.out.cell 0 9 rfl rfl
  cases hfit : fits ⟨⟨co, ct, cr, ck, cm, cw⟩, f, d, A, p⟩ with
  | false =>
    go_wp2
    go_ret
    exact ⟨rfl, gb_below O3.out.grow⟩
  | true =>
  obtain ⟨q1, q2, q3, q4, _, _⟩ := fits_at hfit
  dsimp only at q1 q2 q3 q4
  clear hfit
  by_cases hm3 : 200 < M.length
  · have hm3I : (200 : Int) < (M.length : Int) := by omega
    go_wp2
    go_ret
    exact ⟨rfl, gb_below O3.out.grow⟩
  have hm3d : decide ((200 : Int) < (M.length : Int)) = false := by simp; omega
  have f9 := O3.out.free 0 9 rfl
  have lsb := O3.out.lt 0 rfl
  go_wp2_with fail
  refine (of_lit co ct cr ck cm cw f d [] A fa fc da dc aa ac none 0 _).mono ?_
  rintro r u3 ⟨rfl, g⟩
  have O4 := Lib.hid ((O3.out.set 0 9 (.slice none 0 0) rfl).grown g.out)
  dsimp only [List.set] at O4
  clear O3 g hm3d f9 lsb
  clear d0 d1 d2 d3 d4 d5 d6 d7 d8 d9
  go_wp2_with fail
  cases hok : Scr.ok ⟨⟨co, ct, cr, ck, cm, cw⟩, f, d, A, []⟩ with
  | false =>
    refine (put_err_any co ct cr ck cm cw f d [] A fa fc da dc aa ac none 0 u3 ((HS.out.nopicks 0).grown O4.out.grow) HD.out (by omega) (by omega) (by simp) (by omega) hok).mono ?_
    rintro r u4 ⟨rfl, g⟩
    have G4 := Lib.hid (gb_trans O4.out.grow g.out)
    clear O4 g
    go_wp2
    go_ret
    exact ⟨rfl, gb_below G4.out⟩
  | true =>
    refine (put_ok_any co ct cr ck cm cw f d [] A fa fc da dc aa ac none 0 u3 ((HS.out.nopicks 0).grown O4.out.grow) HD.out (by omega) (by omega) (by simp) (by omega) hok).mono ?_
    rintro r u4 ⟨b, m, c, rfl, g, hm, R⟩
    have O5 := Lib.hid (O4.out.grown g.out)
    have R5 := Lib.hid (owns_lower R.out O4.out.grow.size)
    have OKC := Lib.hid hok
    have hm2 : m ≤ 2000 := by simpa using hm
    have hR7 : 7 ≤ m := by
      obtain ⟨R', hR'⟩ := put_cons co ct cr ck cm cw f d [] A []
      have h1 := owns_len R5.out
      rw [List.append_nil] at hR'
      rw [h1, hR']
      simp
    obtain ⟨q, hq⟩ : ∃ q : Nat, a1 % (m : Int) = q := ⟨(a1 % (m : Int)).toNat, by have := Int.emod_nonneg a1 (show (m : Int) ≠ 0 by omega); omega⟩
    have hqm : q < m := by have := Int.emod_lt_of_pos a1 (show (0 : Int) < m by omega); omega
    have hm0 : ((m : Int) == 0) = false := by simp; omega
    have hm00 : (m : Int) ≠ 0 := by omega
    have e1 : IntKind.i64.wrap a1 = a1 := IntWalk.i64_in _ (by omega)
    obtain ⟨hc1, hc2⟩ := row_cap R5.out
    obtain ⟨gb, rfl, hgb⟩ := owns_some R5.out (by omega)
    clear O4 g R hok hm
    go_wp2_with fail
    refine (get_prefix_own R5.out OKC.out (by omega) q hqm).mono ?_
    rintro r u6 ⟨rfl, g⟩
    have O6 := Lib.hid ((O5.out.grown g.out).skip (.cells #[.int .i64 0, .int .i64 0, .int .i64 0, .int .i64 0, .int .i64 0, .int .i64 0, .slice none 0 0, .slice none 0 0, .slice none 0 0, .slice none 0 0] 30))
    have R6 := Lib.hid ((KeepT.grown (P := fun _ => True) (gb_alloc g.out (.cells #[.int .i64 0, .int .i64 0, .int .i64 0, .int .i64 0, .int .i64 0, .int .i64 0, .slice none 0 0, .slice none 0 0, .slice none 0 0, .slice none 0 0] 30))).own R5.out trivial)
    clear O5 R5 g
    go_upto_region 11 with fail
    generalize u6.alloc _ = u4 at *
    go_wp2_with (first | (at_builtin; go_loud (refine appendU8 _ rfl (.tmp 63) (.tmp 64) rfl (u4).heap.size _ 0 [] rfl (ownsRow_empty (u4) _ 1) (some ⟨gb, 0, none⟩) m c (numsC .u8 (putS ⟨⟨co, ct, cr, ck, cm, cw⟩, f, d, A, []⟩)) rfl (by rw [numsC_len, owns_len R6.out]; omega) (own_src (R6.out.alloc _)) (one_numsC _ _) (by omega) (by simp) ?_); intro b6 c6 w6 ho hg hv; simp only [Nat.zero_add, List.nil_append] at ho; have H6 := Lib.hid (show World.grownBy (u4) w6 none from gb_overO (gb_alloc (gb_refl _ none) _) hg (by intro i e; cases e; exact Nat.le_refl _)); have Y6 := Lib.hid ho; clear ho hg hv; have S6 := Lib.hid (NumsAt.src (HM.out.grown (gb_trans O6.out.grow H6.out)))) | (at_builtin; go_loud (refine appendU8 _ rfl (.tmp 65) (.tmp 66) rfl (u4).heap.size _ m (numsC .u8 (putS ⟨⟨co, ct, cr, ck, cm, cw⟩, f, d, A, []⟩)) rfl Y6.out a2 M.length cap2 (numsC .u8 M) rfl (by rw [numsC_len]; omega) S6.out (one_numsC _ _) (by omega) H6.out.size ?_); intro b7 c7 w7 ho hg hv; rw [← numsC_append] at ho; have Y7 := Lib.hid ho; have H7 := Lib.hid (show World.grownBy (u4) w7 none from gb_overO H6.out hg (fun i hi => (Y6.out.lt i hi).1)); clear ho hg hv))
    refine (get_ok_own Y7.out (bytes_append (bytes_put OKC.out) HB.out) (by omega) co ct cr ck cm cw f d M A (get_more OKC.out HB.out)).mono ?_
    rintro r u8 ⟨ga, gc, ea, ec, ba, bc, qa, qc, rfl, g, OS⟩
    have H8 := Lib.hid (gb_trans H7.out g.out)
    have O8 : Hid (Own w (u8.alloc (.cells #[.int .i64 co, .int .i64 ct, .int .i64 cr, .int .i64 ck, .int .i64 cm, .int .i64 cw, .slice ga f.length gc, .slice ea d.length ec, .slice ba A.length bc, .slice qa M.length qc] 30)) [(u8.heap.size, 30, [.int .i64 co, .int .i64 ct, .int .i64 cr, .int .i64 ck, .int .i64 cm, .int .i64 cw, .slice ga f.length gc, .slice ea d.length ec, .slice ba A.length bc, .slice qa M.length qc]), (sb, 34, [.int .i64 co, .int .i64 ct, .int .i64 cr, .int .i64 ck, .int .i64 cm, .int .i64 cw, .slice fa f.length fc, .slice da d.length dc, .slice aa A.length ac, .slice none 0 0])]) := (O6.out.grown H8.out).alloc 30 [.int .i64 co, .int .i64 ct, .int .i64 cr, .int .i64 ck, .int .i64 cm, .int .i64 cw, .slice ga f.length gc, .slice ea d.length ec, .slice ba A.length bc, .slice qa M.length qc]
    have OS8 := Lib.hid (OS.out.grown (World.grownBy_alloc u8 (.cells #[.int .i64 co, .int .i64 ct, .int .i64 cr, .int .i64 ck, .int .i64 cm, .int .i64 cw, .slice ga f.length gc, .slice ea d.length ec, .slice ba A.length bc, .slice qa M.length qc] 30) none))
    clear H6 Y6 S6 Y7 H7 g H8 R6 O6 OS hq hqm hm0 hm00
    go_upto_region 14 with fail
    generalize u8.alloc _ = v8 at *
    generalize u8.heap.size = tb at *
    have x9 := O8.out.cell 0 9 rfl rfl
    obtain ⟨aa', ac', ee, P8⟩ := OS8.out.at.p
    cases ee
    have NP := Lib.hid P8
    have NM := Lib.hid (HM.out.grown O8.out.grow)
    clear P8
    go_wp2_with fail
    clear x9
    go_loopw [16] (fun iv wr => ∃ k : Nat, k ≤ M.length ∧ iv = .int .i64 k ∧ Hid (v8.grownBy wr none)) (fun iv _ => (M.length - intOf iv).toNat)
    case atStart => exact ⟨0, by omega, rfl, gb_refl _ _⟩
    case round =>
      obtain ⟨k, hk, rfl, G⟩ := hrel
      have x9 := (O8.out.grown G.out).cell 0 9 rfl rfl
      by_cases hlt : k < M.length
      · have hltI : (k : Int) < (M.length : Int) := by omega
        obtain ⟨b1, o1, rfl, _, cx⟩ := (NP.out.grown G.out).at1 hlt
        obtain ⟨b2, o2, rfl, _, cy⟩ := (NM.out.grown G.out).at1 hlt
        have hx := at0_byte HB.out hlt
        generalize at0 M k = x at *
        have e2 : IntKind.i64.wrap x = x := IntWalk.i64_in _ (by omega)
        go_wp2_with fail
        go_quiet (fail)
        go_wp2
        go_roundw
        case rel => exact ⟨k + 1, by omega, by go_num, by first | exact gb_drewN G.out _ | exact gb_drew (gb_drewN G.out _)⟩
        case measure => simp [intOf]; omega
      · obtain rfl : k = M.length := by omega
        have GG := Lib.hid (gb_trans O8.out.grow G.out)
        go_wp2
        go_ret
        exact ⟨rfl, gb_below GG.out⟩

theorem walk (s : Scr) (fv dv av pv : Value) (a1 : Int) (a2 : Option Addr) (len2 cap2 : Nat) (z2 : Nat → Int) (w : World) (c0 : s.c.Wf) (w0 : ScrAt w s fv dv av pv) (y0 : Bytes s.draws) (w1 : (Lit.int .u16 a1).wf = true) (w2 : IsRow .u8 w a2 len2 cap2 z2) :
    Calls Try.prog 6 #[.agg ⟨cfC s.c ++ [fv, dv, av, pv]⟩, .int .u16 a1, .slice a2 len2 cap2] w fun e w' => e = .returned (.bool true) ∧ Below w.heap.size w w' := by
  obtain ⟨⟨co, ct, cr, ck, cm, cw⟩, f, d, A, p⟩ := s
  have h0 := w0
  obtain ⟨⟨fa, fc, rfl, _⟩, ⟨da, dc, rfl, _⟩, ⟨aa, ac, rfl, _⟩, ⟨pa, pc, rfl, _⟩⟩ := h0
  obtain ⟨a', c', e, hN⟩ := NumsAt.of_row w2
  have hlen := numsL_len len2 z2
  have hB := numsL_bytes w2
  generalize numsL len2 z2 = M at *
  subst hlen
  cases e
  have hw : 0 ≤ a1 ∧ a1 ≤ 65535 := bounds_u16 w1
  exact walkIn co ct cr ck cm cw f d p A fa fc da dc aa ac pa pc a1 a2 cap2 M w w0 y0 hw hN hB

theorem own : ownKnob Try.prog.godebug = none := by kernel_rfl
theorem laidOut : laidOutB Try.prog = true := by kernel_rfl

/-! ### THE ROW's STEP, as the guide has it -/
set_option maxRecDepth 100000 in
theorem lifted (os : Os) (started : os.Started) (H : Type) (enc : TypeId × Value → H) :
    ReturnsInHanded {} Try.checked os 6 .any (Rows.scriptCutSpec.pre6 enc Try.prog Try.f6 Rows.scriptCutRow.domain false) (Rows.scriptCutSpec.post enc Try.prog Try.f6 false true false false) := by
  refine returnsInHanded_of_change (C := Try.checked) own started (by kernel_rfl) Try.func6
    (ChangeSpec.witness6 (enc := enc) (C := Try.checked) false ⟨#[], #[.agg #[.int .i64 0, .int .i64 0, .int .i64 0, .int .i64 0, .int .i64 0, .int .i64 0, .slice none 0 0, .slice none 0 0, .slice none 0 0, .slice none 0 0], .int .u16 0, .slice none 0 0], []⟩ 8 (by kernel_rfl) (by kernel_rfl) (by kernel_rfl) (by kernel_rfl)) ?_
  intro W base args ds gs before hval0 hW hcnd _
  have hval : ∀ (j : Nat) t v, Try.f6.params[j]? = some t → args[j]? = some v → Value.okWide Try.prog W .any base t v := hval0
  have hW' := hW
  obtain ⟨p, q, hA0, hV, rfl, hfz, hnd⟩ := hW
  have hA : DataW.TrodAll enc Try.prog W 0 (fun _ => true) true Try.f6.params.toList args.toList ds p := hA0
  rw [Try.params6] at hA hval
  obtain ⟨v0, vs0, d0, ds0, p0, q0, hargs, rfl, rfl, h0, r0⟩ := trodAll_cons hA
  obtain ⟨v1, vs1, d1, ds1, p1, q1, rfl, rfl, rfl, h1, r1⟩ := trodAll_cons r0
  obtain ⟨v2, vs2, d2, ds2, p2, q2, rfl, rfl, rfl, h2, r2⟩ := trodAll_cons r1
  obtain ⟨rfl, rfl, rfl⟩ := trodAll_nil r2
  obtain rfl : args = #[v0, v1, v2] := by cases args; simp_all
  obtain ⟨rfl, rfl⟩ := trodVars_none hV
  obtain ⟨cs0, rfl, sz0⟩ := okWide_struct Try.underlying34 (hval 0 34 v0 rfl rfl)
  have k0 := h0
  have lt0 : ∀ x ∈ p0, x.block < W.heap.size := by obtain ⟨m, hm⟩ := k0; exact DataW.trod_lt m _ _ _ hm
  obtain ⟨s0, fv0, dv0, av0, pv0, rfl, c0, w0, y0⟩ : ∃ (s : Scr) (fv dv av pv : Value), cs0 = ⟨cfC s.c ++ [fv, dv, av, pv]⟩ ∧ s.c.Wf ∧ ScrAt W s fv dv av pv ∧ Bytes s.draws := by
    obtain ⟨fuel, hf⟩ := h0
    exact script_arg (sz0.trans (by kernel_rfl)) hf
  obtain ⟨a1, rfl, rfl, rfl, w1⟩ := open_int Try.underlying46 (hval 1 46 v1 rfl rfl) h1
  obtain ⟨a2, len2, cap2, rfl⟩ := okWide_slice Try.underlying22 (hval 2 22 v2 rfl rfl)
  have k2 := h2
  have lt2 : ∀ x ∈ p2, x.block < W.heap.size := by obtain ⟨m, hm⟩ := k2; exact DataW.trod_lt m _ _ _ hm
  obtain ⟨z2, w2⟩ : ∃ z, IsRow .u8 W a2 len2 cap2 z := by
    obtain ⟨fuel, hf⟩ := h2
    exact isRow_of Try.underlying22 Try.underlying5 (by kernel_rfl) hf
  clear hA0 hval0
  refine (walk s0 fv0 dv0 av0 pv0 a1 a2 len2 cap2 z2 W c0 w0 y0 w1 w2).mono fun e W' ⟨he, bel⟩ => ?_
  subst he
  exact ⟨_, rfl, _, _, _, [], _, [], hW', trodAll_mk1 (shut_bool Try.underlying4 _), (trodAll_cons_mk (Below.trod laidOut (by kernel_rfl) (of_decide_eq_true (by kernel_rfl)) k0 bel lt0) (trodAll_cons_mk (shut_int Try.underlying46 w1) (trodAll_cons_mk (Below.trod laidOut (by kernel_rfl) (of_decide_eq_true (by kernel_rfl)) k2 bel lt2) trodAll_mk0))), rfl, bel.frame _, fun h => by cases h⟩

theorem over : Rows.scriptCutRow.holds Try.pinned (OpenSpec.ofChange Rows.scriptCutSpec) :=
  OpenClaim.holds_of_wide 6 Try.f6 rfl rfl rfl rfl rfl rfl rfl ⟨rfl, rfl, rfl, rfl, rfl⟩ rfl rfl rfl rfl rfl (by kernel_rfl) Try.func6 (by kernel_rfl)
    (of_decide_eq_true (by kernel_rfl)) (by unfold Func.isWrapper; first | (rw [if_pos (by decide +kernel)]; kernel_rfl) | (rw [if_neg (by decide +kernel)]; exact ⟨rfl, rfl⟩))
    (fun os started H enc _ => lifted os started H enc)

theorem proved : Rows.ScriptCutSaid := over
#print axioms proved
end Go.Proofs.Ytinmhefkmjlelaa.scriptCut
